import PyProof.Rows.All
import Wide.All
import OpenK.AllK
import Wide.FinOn
import HandS.ForMost
import HandS.Flow
import HandS.IsInst
import HandS.Style
import HandS.More
import HandS.Strs
import HandS.Zip
import HandS.Codes
import HandS.Defaults
import HandS.MakeKw
import HandS.TupAny
import HandS.TupMul
import HandS.Wide
import HandS.Sort
import HandS.SortInts
import HandS.NoneIn
import HandS.Conv
import HandS.Walk
import HandS.Head0
import HandS.Head1
import HandS.Head2
import HandS.HeadEnd
import HandS.HeadHook1
import HandS.HeadHook2
import HandS.Star
import HandS.SortOrd
import HandS.TryOnly
import PyProof.EqAt
import PySem.Challenge.RW_lockerwall_k25_letters_and_codes
set_option Elab.async false
set_option linter.all false
set_option maxRecDepth 100000
namespace My
open PySem PySem.Spec PyProof.Rows L2
/-! ### tables of the written part by address -/
def tupAt (K : PySem.W.Frag) (a : Addr) (vs : List V) : Bool := match K.lookup a with
  | some ⟨.type c, none, .seq its _, _⟩ => decide (c = "tuple") && (decide (its.size ≤ sizeLine) && He.relAll vs its.toList)
  | _ => false
theorem tupAt_ex {K : PySem.W.Frag} {a : Addr} {vs : List V} (h : tupAt K a vs = true) : ∃ (o : Obj) (its : Array Value) (n : Nat), K.lookup a = some o ∧ o.cls = .type "tuple" ∧ o.dict = none ∧ o.data = .seq its n ∧ its.size ≤ sizeLine ∧ Vals vs its.toList := by
  unfold tupAt at h
  cases q : K.lookup a with
  | none =>
    rw [q] at h
    cases h
  | some o =>
    obtain ⟨oc, od, dt, osl⟩ := o
    rw [q] at h
    cases oc with
    | type c =>
      cases od with
      | none =>
        cases dt with
        | seq its n =>
          obtain ⟨h1, h2⟩ := He.ba (show (decide (c = "tuple") && (decide (its.size ≤ sizeLine) && He.relAll vs its.toList)) = true from h)
          obtain ⟨h3, h4⟩ := He.ba h2
          exact ⟨_, its, n, rfl, congrArg Value.type (of_decide_eq_true h1), rfl, rfl, of_decide_eq_true h3, He.relAll_ok h4⟩
        | _ => cases h
      | some d => cases dt <;> cases h
    | _ => cases od <;> cases dt <;> cases h
theorem tupAt_ok {K : PySem.W.Frag} {a : Addr} {vs : List V} (h : tupAt K a vs = true) (H : Hp) : SqT K H a vs := by
  obtain ⟨o, its, n, h1, h2, h3, h4, h5, h6⟩ := tupAt_ex h
  exact .inr ⟨o, its, n, h1, h2, h4, h5, h6⟩
theorem tupAt_ty {K : PySem.W.Frag} {a : Addr} {vs : List V} (h : tupAt K a vs = true) (H : Hp) : tyV K "tuple" (.ref a) H := by
  obtain ⟨o, its, n, h1, h2, h3, h4, h5, h6⟩ := tupAt_ex h
  exact .inr (.inl ⟨rfl, o, h1, h2, h3⟩)
theorem all_ix {l : List Bool} (h : l.all id = true) (i : Nat) {b : Bool} (e : l[i]? = some b) : b = true := by
  have := List.all_eq_true.mp h b (List.mem_of_getElem? e)
  exact this
/-! ### the Hook: facts, defs, one more Bool -/
abbrev AlE : Type := He.AlD × Bool
def obsDG2 (n : Nat) (fa : List He.Fa) (fn : List He.DefD) (ex : PySem.W.Frag → Bool) (g : Addr → Option Obj) : AlE := (fun K => (He.obsD fa fn K, ex K)) (He.frG g (He.asD g n))
def hookD2 (n : Nat) (fa : List He.Fa) (fn : List He.DefD) (ex : PySem.W.Frag → Bool) : PySem.W.Hook where
  α := AlE
  obs := fun s => obsDG2 n fa fn ex s.heap.get?
  val := fun _ => (He.valD fn, true)
  says := fun _ h => ∃ K : PySem.W.Frag, K.In h ∧ He.SaysD fa fn K ∧ ex K = true
  of := fun _ _ e => ⟨_, He.frG_in, congrArg (fun z : AlE => z.1) e, congrArg (fun z : AlE => z.2) e⟩
  keeps := fun _ _ _ ⟨K, hK, c⟩ k => ⟨K, PySem.W.Frag.In.keeps hK k, c⟩
theorem obsDG2_eq {n : Nat} {fa : List He.Fa} {fn : List He.DefD} {ex : PySem.W.Frag → Bool} {g : Addr → Option Obj} {s : Shared} (h : ∀ a, g a = s.heap.get? a) : obsDG2 n fa fn ex g = (hookD2 n fa fn ex).obs s := by
  have e : g = s.heap.get? := funext h
  rw [e] <;> rfl
end My
namespace My
open PySem PySem.Spec PyProof.Rows L2
/-! ### small rules -/
section
variable {X : Cx} {k j : Nat} {C : Addr} {x : Str} {sp : Sp} {dvs : List V} {p pos : Pos}
theorem pe_c0 (c : C8.Cal X.prog X.w X.K X.mg X.base k x sp dvs) (hr : Room j X.A) (hk : k ≤ j) (hg : Gl X x) (hdb : (x == ("__debug__" : Str)) = false := by decide) :
    PE X (.Call (.Name x p) [] [] pos) (tCall sp dvs C8.E0 tNil) := by
  obtain ⟨f, fd, ps, ds, F, hm, kp, b, d⟩ := c.ex
  exact pe_call0 F (hr.mono hk) hg hm kp b d C8.pass0 hdb
theorem pe_mk0 (c : C8.Mak X.prog X.w X.K X.mg X.base k x C sp dvs) (hr : Room j X.A) (hk : k + 1 ≤ j) (hg : Gl X x) (hdb : (x == ("__debug__" : Str)) = false := by decide) :
    PE X (.Call (.Name x p) [] [] pos) (tMake C sp dvs C8.E0 tNil) := by
  obtain ⟨f, fd, ps, ds, M, F, hm, b, d⟩ := c.ex
  exact pe_make0 M F (hr.mono hk) hg hm b d C8.pass0 hdb
/-- ** of great ints -/
def CPowW (i j : Int) : Prop := 0 ≤ j ∧ j ≤ 100 ∧ i.natAbs < 2 ^ 10000
theorem op_powW : OpR X (binaryOp .Pow) (rI CPowW fun i j => .int (i ^ j.toNat)) := opI fun i j _ _ _ _ _ hc q => by
  obtain ⟨h1, h2, h3⟩ := hc
  have hb := intBits_le h3
  refine PyProof.Rows.pow_int h1 ?_ q
  have h4 : (Builtin.Int.intBits i : Int) ≤ 10000 := by omega
  have h5 : (Builtin.Int.intBits i : Int) * j ≤ 10000 * 100 := Int.mul_le_mul h4 h2 h1 (by decide)
  exact Int.le_trans h5 (by decide)
end
theorem inV_str (x : Str) : ∀ ws : List Str, inV (.str x) (ws.map V.str) = decide (x ∈ ws)
  | [] => rfl
  | y :: ws => by
    have ih := inV_str x ws
    show (eqV (.str y) (.str x) || inV (.str x) (ws.map V.str)) = _
    rw [ih]
    show ((y == x) || decide (x ∈ ws)) = _
    by_cases e : y = x
    · subst e
      simp
    · have e2 : ¬ x = y := fun z => e z.symm
      simp [e, e2]
theorem all_flat_str (ws : List Str) : (ws.map V.str).all flatV = true := by
  rw [List.all_map]
  exact List.all_eq_true.mpr fun _ _ => rfl
end My

namespace My
open PySem PySem.Spec PyProof.Rows L2
theorem map_get {α β : Type} {f : α → β} {l : List α} {i : Nat} {y : β} (h : (l.map f)[i]? = some y) : ∃ z, l[i]? = some z ∧ y = f z := by
  rw [List.getElem?_map] at h
  cases e : l[i]? with
  | none =>
    rw [e] at h
    cases h
  | some z =>
    rw [e] at h
    exact ⟨z, rfl, (Option.some.inj h).symm⟩
theorem tyx_tup {K : PySem.W.Frag} {H : Hp} {a : Addr} {xs : List V} (h : SqT K H a xs) : TyX K H (.ref a) (.type "tuple") := by
  rcases h with (h | ⟨o, h⟩) | ⟨o, its, n, hk, hc, _⟩
  · exact .base (.tup h)
  · exact .fTuple h
  · exact .kTuple hk hc
theorem tyx_lst {K : PySem.W.Frag} {H : Hp} {a : Addr} {xs : List V} (h : SqL K H a xs) : TyX K H (.ref a) (.type "list") := by
  rcases h with (h | ⟨o, h⟩) | ⟨o, its, n, hk, hc, _⟩
  · exact .base (.lst h)
  · exact .base (.frz h)
  · exact .kList hk hc
theorem same_tup {K : PySem.W.Frag} {H H' : Hp} {a : Addr} {xs : List V} (e : Same H H') (h : SqT K H a xs) : SqT K H' a xs := by
  rcases h with (h | ⟨o, h⟩) | h
  · exact .inl (.inl (e _ _ h))
  · exact .inl (.inr ⟨o, e _ _ h⟩)
  · exact .inr h
theorem same_new {H : Hp} {a : Addr} {o : HO} (h : H a = Option.none) : Same H (upd H a o) := fun b u e => by
  rw [upd_ne (ne_of_none e h)]
  exact e
theorem same_upd {H H' : Hp} {a : Addr} {o : HO} (s : Same H H') (h : H a = Option.none) : Same H (upd H' a o) := fun b u e => by
  rw [upd_ne (ne_of_none e h)]
  exact s b u e
/-- all that stood stands as it was, but at these addresses -/
def But (as : List Addr) (H H' : Hp) : Prop := ∀ b o, b ∉ as → H b = some o → H' b = some o
theorem But.refl (as : List Addr) (H : Hp) : But as H H := fun _ _ _ h => h
theorem But.trans {as : List Addr} {H H1 H2 : Hp} (a : But as H H1) (b : But as H1 H2) : But as H H2 := fun c o n h => b c o n (a c o n h)
theorem But.of {as : List Addr} {H H' : Hp} (s : Same H H') : But as H H' := fun c o _ h => s c o h
theorem But.mono {as bs : List Addr} {H H' : Hp} (s : But as H H') (h : ∀ a ∈ as, a ∈ bs) : But bs H H' := fun c o n e => s c o (fun z => n (h c z)) e
theorem But.same {H H' : Hp} (s : But [] H H') : Same H H' := fun c o h => s c o (by simp) h
/-- a change at a place that was not there, or that is let -/
theorem But.put {as : List Addr} {H H' : Hp} {a : Addr} {o : HO} (s : But as H H') (h : H a = Option.none ∨ a ∈ as) : But as H (upd H' a o) := fun b u n e => by
  have nb : b ≠ a := by
    intro z
    subst z
    rcases h with h | h
    · rw [h] at e
      cases e
    · exact n h
  rw [upd_ne nb]
  exact s b u n e
theorem But.tup {K : PySem.W.Frag} {as : List Addr} {H H' : Hp} {a : Addr} {xs : List V} (s : But as H H') (n : a ∉ as) (h : SqT K H a xs) : SqT K H' a xs := by
  rcases h with (h | ⟨o, h⟩) | h
  · exact .inl (.inl (s _ _ n h))
  · exact .inl (.inr ⟨o, s _ _ n h⟩)
  · exact .inr h
theorem But.lst {K : PySem.W.Frag} {as : List Addr} {H H' : Hp} {a : Addr} {xs : List V} (s : But as H H') (n : a ∉ as) (h : SqL K H a xs) : SqL K H' a xs := by
  rcases h with (h | ⟨o, h⟩) | h
  · exact .inl (.inl (s _ _ n h))
  · exact .inl (.inr ⟨o, s _ _ n h⟩)
  · exact .inr h
theorem But.none {as : List Addr} {H H' : Hp} {a : Addr} (s : But as H H') (n : a ∉ as) (h : H' a = Option.none) : H a = Option.none := by
  cases q : H a with
  | none => rfl
  | some o =>
    rw [s a o n q] at h
    cases h
end My
namespace My
open PySem PySem.Spec PyProof.Rows L2
/-! ### the rules by a named K (a comprehension's block has its own context over the same K) -/
section
variable {X : Cx} {K : PySem.W.Frag} {a b e o : Expr} {es : List Expr} {ta tb te to : TE} {t : TA} {pos apos cpos tpos p2 : Pos} {f name : Str} {T id : String} {r : V → List V → Hp → VK → Prop} {tg l : Expr} {tl : TE}
theorem ix_listK (h : X.K = K) : IxR X (rIxL K) := by subst h; exact ix_list
theorem ix_tupK (h : X.K = K) : IxR X (rIxT K) := by subst h; exact ix_tup
def rLenQ (K : PySem.W.Frag) : List V → Hp → VK → Prop := fun xs H Q => ∃ p ys, xs = [.ref p] ∧ (SqL K H p ys ∨ SqT K H p ys) ∧ Q (.int ys.length) H
theorem len_seqK (h : X.K = K) : CallR X (.builtin "len") (rLenQ K) := by subst h; exact call_len_seq
def rListOf (K : PySem.W.Frag) : List V → Hp → VK → Prop := fun xs H Q => ∃ p ys, xs = [.ref p] ∧ (SqL K H p ys ∨ SqT K H p ys) ∧ ∀ l, H l = none → Q (.ref l) (upd H l (.lst ys))
theorem list_ofK (h : X.K = K) : CallR X (.type "list") (rListOf K) := by subst h; exact call_list_of
def rTupleOf (K : PySem.W.Frag) : List V → Hp → VK → Prop := fun xs H Q => ∃ p ys, xs = [.ref p] ∧ ((SqL K H p ys ∧ ∀ l, H l = none → Q (.ref l) (upd H l (.tup ys))) ∨ (SqT K H p ys ∧ Q (.ref p) H))
theorem tuple_ofK (h : X.K = K) : CallR X (.type "tuple") (rTupleOf K) := by subst h; exact call_tuple_of
theorem isiK (h : X.K = K) : CallR X (.builtin "isinstance") (rIsi K) := by subst h; exact call_isi
theorem isiTK (h : X.K = K) : CallR X (.builtin "isinstance") (rIsiT K) := by subst h; exact call_isiT
theorem allK (h : X.K = K) (hc : X.calm = true) : CallR X (.builtin "all") (rAll K) := by subst h; exact cr_all hc
theorem anyK (h : X.K = K) (hc : X.calm = true) : CallR X (.builtin "any") (rAny K) := by subst h; exact cr_any hc
theorem sortedIK (h : X.K = K) : CallR X (.builtin "sorted") (rSortedI K) := by subst h; exact cr_sortedI
theorem in_seqK (h : X.K = K) : OpR X (compareOp .In) (rIn K false) := by subst h; exact op_in_seq
theorem notIn_seqK (h : X.K = K) : OpR X (compareOp .NotIn) (rIn K true) := by subst h; exact op_notIn_seq
theorem eqDK (h : X.K = K) (hu : X.A.units + 64 < cLine) : OpR X (compareOp .Eq) (rEqD K) := by subst h; exact op_eqD hu
theorem neDK (h : X.K = K) (hu : X.A.units + 64 < cLine) : OpR X (compareOp .NotEq) (rNeD K) := by subst h; exact op_neD hu
theorem catAK (h : X.K = K) : OpR X (binaryOp .Add) (rCatA K) := by subst h; exact op_catA
theorem repTK (h : X.K = K) : OpR X (binaryOp .Mult) (rRepT K) := by subst h; exact op_repT
theorem sl_listK (h : X.K = K) : SlR X (rSlL K) := by subst h; exact sl_list
theorem sl_tupAK (h : X.K = K) : SlR X (rSlA K) := by subst h; exact sl_tupA
theorem pe_fldK (h : X.K = K) (he : PE X e ta) (hb : attributeBase e f X.env (eval e X.env) = eval e X.env) : PE X (.Attribute e f pos) (tFld K ta f) := by subst h; exact pe_fld he hb
theorem pt_truthK (h : X.K = K) (ha : PE X a ta) (he : ∀ whole, isTrue a X.env whole = (do let v ← whole; standAt a.pos; holding [v] (truthy v))) : PT X a (fun σ H Q => ta σ H fun x H' => ∃ k, TruV K x H' k ∧ Q k H') := by subst h; exact pt_truth ha he
theorem pi_listK (h : X.K = K) (hl : PE X l tl) : PI X tg l (iList K tl) := by subst h; exact pi_list hl
theorem pi_tupK (h : X.K = K) (hl : PE X l tl) : PI X tg l (iTup K tl) := by subst h; exact pi_tup hl
theorem pe_revLK {k : Nat} {p1 p3 : Pos} (h : X.K = K) (he : PE X e te) : PE X (.Subscript e (.Slice none none (some (.UnaryOp .USub (.Constant (.int 1) k p1) p2)) p3) pos) (tRevL K te) := by subst h; exact pe_revL he
theorem pe_bm0K (h : X.K = K) (pa : PlainAttrs T) (slot : Slot T name id) (hty : typeOf (.builtin id) = pure (.type "method_descriptor")) (hm : MtR X id r) (ho : PE X o to)
    (hbase : attributeBase o name X.env (eval o X.env) = eval o X.env := by rfl) (hline : (apos.endLine == cpos.line) = true := by rfl) : PE X (.Call (.Attribute o name apos) [] [] cpos) (tBM0 K T r to) := by subst h; exact pe_bm0 pa slot hty hm ho hbase hline
theorem pe_bmK (h : X.K = K) (pa : PlainAttrs T) (slot : Slot T name id) (hty : typeOf (.builtin id) = pure (.type "method_descriptor")) (hm : MtR X id r) (ho : PE X o to) (ha : PA X (e :: es) t)
    (hbase : attributeBase o name X.env (eval o X.env) = eval o X.env := by rfl)
    (hfew : ((backTo cpos (starEach (e :: es) X.env)).all (fun x => !x.1) && (backToKw cpos (keywordEach [] X.env)).all (fun x => x.1.isSome)
      && decide ((e :: es).length + ([] : List Keyword).length + (if ([] : List Keyword).isEmpty then 0 else 1) < 30)) = true := by rfl)
    (hline : (apos.endLine == cpos.line) = true := by rfl) (hs : starEach (e :: es) X.env = (false, eval e X.env) :: starEach es X.env := by rfl) (hplain : (backTo cpos (starEach es X.env)).any (·.1) = false := by rfl) :
    PE X (.Call (.Attribute o name apos) (e :: es) [] cpos) (tBM K T r to t) := by subst h; exact pe_bm pa slot hty hm ho ha hbase hfew hline hs hplain
def rTupIx (K : PySem.W.Frag) : V → List V → Hp → VK → Prop := fun x xs H Q => ∃ p, ∃ ys : List Str, ∃ z j, x = .ref p ∧ xs = [.str z] ∧ SqT K H p (ys.map V.str) ∧ ys[j]? = some z ∧ (∀ m, m < j → ys[m]? ≠ some z) ∧ Q (.int (j : Nat)) H
theorem tup_indexK (h : X.K = K) : MtR X "tuple.index" (rTupIx K) := by subst h; exact mt_tup_index
end
end My
namespace My
open PySem PySem.Spec PyProof.Rows L2
theorem pg_tupK {X : Cx} {K : PySem.W.Frag} {es : List Expr} {k : Nat} {t : TGs} {n : Nat} {pos : Pos} (h0 : X.K = K) (hc : X.calm = true) (h : PGs X es t)
    (hn : (assignEach es X.env).length = n := by rfl) (hst : (assignEach es X.env).findIdx? (·.1) = none := by rfl) : PG X (.Tuple es k pos) (gTup K n t) := by subst h0; exact pg_tup hc h hn hst
/-! ### two fors in a comprehension -/
section
variable {J J1 : It} {n n1 : Nat} {G G1 : Hp → Prop} {Y Y1 : Nat → Hp → V → Hp → Prop} {g g1 : TG} {tt tt1 : TT} {te : TE} {wi1 : TI} {vs vs1 : List Nat} {σ σ2 : L2.St} {H1 H4 : Hp} {D : Addr} {Qd Nx : Hp → Prop}
theorem lc2_out (w : Walk J n G Y) (Pv : Nat → Hp → Prop) (h0 : Pv 0 (upd H1 D (.lst []))) (hG : ∀ i H, i ≤ n → Pv i H → G H)
    (hs : ∀ i x H H', i < n → Pv i H → Y i H x H' → g x (wipe σ vs) H' fun σ2 H2 => wipe σ2 vs = wipe σ vs ∧ tt σ2 H2 fun b H3 =>
      if b = true then wi1 σ2 H3 fun J1 H4 => ∃ W1 : Nat → Nat → Hp → Prop, (∃ m, W1 0 m H4) ∧ ∀ j k H, W1 j k H →
        (J1.stop j H ∧ Pv (i + 1) H) ∨ (J1.go j H ∧ ∃ Nx1 : Hp → Prop, (∀ H', Nx1 H' → ∃ k', k' < k ∧ W1 (j + 1) k' H') ∧ ∀ x H', J1.yld j H x H' → g1 x (wipe σ2 vs1) H' fun σ3 H5 => wipe σ3 vs1 = wipe σ2 vs1 ∧ tt1 σ3 H5 fun b H6 =>
          if b = true then te σ3 H6 fun y H7 => ∃ acc, H7 D = some (.lst acc) ∧ acc.length < sizeLine ∧ Nx1 (upd H7 D (.lst (acc ++ [y]))) else Nx1 H6)
      else Pv (i + 1) H3) (hd : ∀ H, Pv n H → Qd H) :
    ∃ W : Nat → Nat → Hp → Prop, (∃ m, W 0 m (upd H1 D (.lst []))) ∧ ∀ i m H, W i m H →
      (J.stop i H ∧ Qd H) ∨ (J.go i H ∧ ∃ Nx : Hp → Prop, (∀ H', Nx H' → ∃ m', m' < m ∧ W (i + 1) m' H') ∧ ∀ x H', J.yld i H x H' → g x (wipe σ vs) H' fun σ2 H2 => wipe σ2 vs = wipe σ vs ∧ tt σ2 H2 fun b H3 =>
        if b = true then wi1 σ2 H3 fun J1 H4 => ∃ W1 : Nat → Nat → Hp → Prop, (∃ m, W1 0 m H4) ∧ ∀ j k H, W1 j k H →
          (J1.stop j H ∧ Nx H) ∨ (J1.go j H ∧ ∃ Nx1 : Hp → Prop, (∀ H', Nx1 H' → ∃ k', k' < k ∧ W1 (j + 1) k' H') ∧ ∀ x H', J1.yld j H x H' → g1 x (wipe σ2 vs1) H' fun σ3 H5 => wipe σ3 vs1 = wipe σ2 vs1 ∧ tt1 σ3 H5 fun b H6 =>
            if b = true then te σ3 H6 fun y H7 => ∃ acc, H7 D = some (.lst acc) ∧ acc.length < sizeLine ∧ Nx1 (upd H7 D (.lst (acc ++ [y]))) else Nx1 H6)
        else Nx H3) := by
  refine ⟨fun i m H => m = n - i ∧ i ≤ n ∧ Pv i H, ⟨n, by simp, Nat.zero_le _, h0⟩, ?_⟩
  rintro i m H ⟨rfl, hi, p⟩
  have q := hG i H hi p
  by_cases hlt : i < n
  · exact .inr ⟨w.goes i H hlt q, Pv (i + 1), fun H' p' => ⟨n - (i + 1), by omega, rfl, hlt, p'⟩, fun x H' y => hs i x H H' hlt p (w.yields i H x H' hlt q y)⟩
  · have e : i = n := by omega
    subst e
    exact .inl ⟨w.stops H q, hd H p⟩
theorem lc2_in (w : Walk J1 n1 G1 Y1) (Pv : Nat → Hp → Prop) (h0 : Pv 0 H4) (hG : ∀ i H, i ≤ n1 → Pv i H → G1 H)
    (hs : ∀ i x H H', i < n1 → Pv i H → Y1 i H x H' → g1 x (wipe σ2 vs1) H' fun σ3 H5 => wipe σ3 vs1 = wipe σ2 vs1 ∧ tt1 σ3 H5 fun b H6 =>
      if b = true then te σ3 H6 fun y H7 => ∃ acc, H7 D = some (.lst acc) ∧ acc.length < sizeLine ∧ Pv (i + 1) (upd H7 D (.lst (acc ++ [y]))) else Pv (i + 1) H6) (hd : ∀ H, Pv n1 H → Nx H) :
    ∃ W1 : Nat → Nat → Hp → Prop, (∃ m, W1 0 m H4) ∧ ∀ j k H, W1 j k H →
      (J1.stop j H ∧ Nx H) ∨ (J1.go j H ∧ ∃ Nx1 : Hp → Prop, (∀ H', Nx1 H' → ∃ k', k' < k ∧ W1 (j + 1) k' H') ∧ ∀ x H', J1.yld j H x H' → g1 x (wipe σ2 vs1) H' fun σ3 H5 => wipe σ3 vs1 = wipe σ2 vs1 ∧ tt1 σ3 H5 fun b H6 =>
        if b = true then te σ3 H6 fun y H7 => ∃ acc, H7 D = some (.lst acc) ∧ acc.length < sizeLine ∧ Nx1 (upd H7 D (.lst (acc ++ [y]))) else Nx1 H6) := by
  refine ⟨fun i m H => m = n1 - i ∧ i ≤ n1 ∧ Pv i H, ⟨n1, by simp, Nat.zero_le _, h0⟩, ?_⟩
  rintro i m H ⟨rfl, hi, p⟩
  have q := hG i H hi p
  by_cases hlt : i < n1
  · exact .inr ⟨w.goes i H hlt q, Pv (i + 1), fun H' p' => ⟨n1 - (i + 1), by omega, rfl, hlt, p'⟩, fun x H' y => hs i x H H' hlt p (w.yields i H x H' hlt q y)⟩
  · have e : i = n1 := by omega
    subst e
    exact .inl ⟨w.stops H q, hd H p⟩
end
end My
namespace My
open PySem PySem.Spec PyProof.Rows L2
/-! ### f(b=.., a=..): both arguments by name, turned about -/
def kwG {α : Type} (us ws : List α) : List α := match us, ws with
  | [], [x, y] => [y, x]
  | _, _ => []
structure CalK2 (P : Program) (w : World) (K : PySem.W.Frag) (mg : Str → Option Value) (base : Heap) (k : Nat) (x : Str) (sp : Sp) (p1 p2 : Str) : Prop where
  ex : ∃ (f : Addr) (fd : FuncData), FnOk P w K mg base C8.CX0 k f fd [p1, p2] sp ∧ mg x = some (.ref f) ∧ PySem.W.keepIn K (.ref f) = true ∧ KBinds K fd [p1, p2] [p2, p1] kwG kwG
theorem kw2_of {K : PySem.W.Frag} {x qual : Str} {params : Arguments} {body : List Stmt} {scope : Scope} {kws : List (Str × V)} {f : Addr} {fd : FuncData} {p1 p2 : Str} (F : FunD K x qual params body scope [] kws f fd)
    (h : ∀ (kV doc pm : Value) (an : Option Addr) (cdv ct : Value) (u v : Value), bindArgs (PySem.W.fnOf x qual params body scope .none kV doc pm an cdv ct) ⟨[], [(p2, u), (p1, v)]⟩ = pure [(p1, v), (p2, u)]) : KBinds K fd [p1, p2] [p2, p1] kwG kwG := by
  obtain ⟨oc, od, dV, kV, doc, pm, an, cdv, ct, osl, rfl, lk, hcd, hD, hK⟩ := F.ex
  rcases hD with ⟨_, rfl⟩ | ⟨e, _⟩
  · refine ⟨fun s us ws X hl => ?_, fun {vs us zs ws} r1 r2 => ?_⟩
    · match us, ws, hl with
      | [], [u, v], _ => exact .of_eq (h kV doc pm an cdv ct u v)
    · cases r1 with
      | nil =>
        cases r2 with
        | nil => exact .nil
        | cons a r2 =>
          cases r2 with
          | nil => exact .nil
          | cons b r2 =>
            cases r2 with
            | nil => exact .cons b (.cons a .nil)
            | cons c r2 => exact .nil
      | cons a r1 => exact .nil
  · exact absurd rfl e
theorem pe_kw2 {X : Cx} {k j : Nat} {x p1 p2 : Str} {sp : Sp} {p pos : Pos} {kws : List Keyword} {tk : TA} (c : CalK2 X.prog X.w X.K X.mg X.base k x sp p1 p2) (hr : Room j X.A) (hk : k ≤ j) (hg : Gl X x) (hkw : PK X kws tk)
    (hall : (backToKw pos (keywordEach kws X.env)).all (·.1.isSome) = true := by rfl) (hks : (backToKw pos (keywordEach kws X.env)).filterMap (·.1) = [p2, p1] := by rfl) (hdb : (x == ("__debug__" : Str)) = false := by decide)
    (hpl : ((backTo pos (starEach [] X.env)).any (·.1) || (backToKw pos (keywordEach kws X.env)).any (·.1.isNone)) = false := by rfl) : PE X (.Call (.Name x p) [] kws pos) (tCallK sp kwG C8.E0 tNil tk) := by
  obtain ⟨f, fd, F, hm, kp, hb⟩ := c.ex
  refine ⟨fun pins s σ H Q I h => ?_⟩
  refine wpAny_Call_Name_kw (ld_glob I hg hm ?_ hdb)
  refine PySem.W.callWith_KW0 (h₀ := X.base) I.ok.mod.kin kp hall (thn (hkw.run pos pins s σ H _ I h) fun ws s2 ⟨zs, H2, I2, rz, q2⟩ => ⟨I2.kIn, ?_⟩) hpl
  rw [hks]
  exact run_fnk (us := []) F (hr.mono hk) hb C8.pass0 I2 .nil rz q2
end My
namespace My
open PySem PySem.Spec PyProof.Rows L2 StX
/-! ### C(e, *ys); C(e, .., k = v, ..) -/
section
variable {X : Cx} {K : PySem.W.Frag} {k j n : Nat} {C : Addr} {x : Str} {sp : Sp} {dvs : List V} {p pos sp_ : Pos} {e : Expr} {es : List Expr} {te : TE} {t tk : TA} {kws : List Keyword} {ks : List Str} {gV : List V → List V → List V}
theorem pa_starK (h : X.K = K) (he : PE X e te) (hr : PA X es t) (hs : starEach (.Starred e sp_ :: es) X.env = (true, eval e X.env) :: starEach es X.env := by rfl) : PA X (.Starred e sp_ :: es) (tStar K te t) := by subst h; exact pa_star he hr hs
theorem pe_mkS2 (c : C8.Mak X.prog X.w X.K X.mg X.base k x C sp dvs) (hr : Room j X.A) (hk : k + 1 ≤ j) (hg : Gl X x) (ha : PA X (e :: es) t) (hdb : (x == ("__debug__" : Str)) = false := by decide)
    (he : starEach (e :: es) X.env = (false, eval e X.env) :: starEach es X.env := by rfl) (hst : (backTo pos (starEach es X.env)).any (·.1) = true := by rfl) : PE X (.Call (.Name x p) (e :: es) [] pos) (tMake C sp dvs C8.E0 t) := by
  obtain ⟨f, fd, ps, ds, M, F, hm, b, d⟩ := c.ex
  refine ⟨fun pins s σ H Q I h => ?_⟩
  refine wpAny_Call_Name_kw (ld_glob I hg hm ?_ hdb)
  refine PySem.W.callWith_S2 (h₀ := X.base) I.ok.mod.kin M.kp (thn (ha.run pos pins s σ H _ I h) fun us s1 ⟨vs, H1, I1, r, q⟩ => ⟨I1.kIn, ?_⟩) he hst
  exact run_make M F (hr.mono hk) b d C8.pass0 I1 r q
structure MakN (P : Program) (w : World) (K : PySem.W.Frag) (mg : Str → Option Value) (base : Heap) (k : Nat) (x : Str) (C : Addr) (sp : Sp) (n : Nat) (ks : List Str) (gV : List V → List V → List V) : Prop where
  ex : ∃ (f : Addr) (fd : FuncData) (ps : List Str) (g : List Value → List Value → List Value), Mk K C f ∧ FnOk P w K mg base C8.CX0 k f fd ps sp ∧ mg x = some (.ref C) ∧ KBn K fd ps (n + 1) ks g gV
theorem pe_mkN (c : MakN X.prog X.w X.K X.mg X.base k x C sp n ks gV) (hr : Room j X.A) (hk : k + 1 ≤ j) (hg : Gl X x) (ha : PA X (e :: es) t) (hkw : PK X kws tk)
    (hall : (backToKw pos (keywordEach kws X.env)).all (·.1.isSome) = true := by rfl) (hks : (backToKw pos (keywordEach kws X.env)).filterMap (·.1) = ks := by rfl)
    (hdb : (x == ("__debug__" : Str)) = false := by decide) (he : starEach (e :: es) X.env = (false, eval e X.env) :: starEach es X.env := by rfl)
    (hpl : ((backTo pos (starEach (e :: es) X.env)).any (·.1) || (backToKw pos (keywordEach kws X.env)).any (·.1.isNone)) = false := by rfl) : PE X (.Call (.Name x p) (e :: es) kws pos) (tMakeN C n ks.length sp gV C8.E0 t tk) := by
  obtain ⟨f, fd, ps, g, M, F, hm, hb⟩ := c.ex
  exact pe_makeN M F (hr.mono hk) hg hm hb C8.pass0 ha hkw hall hks hdb he hpl
end
theorem vals_drop : ∀ {vs : List V} {us : List Value} (n : Nat), Vals vs us → Vals (vs.drop n) (us.drop n)
  | _, _, 0, h => h
  | _, _, _ + 1, .nil => .nil
  | _, _, n + 1, .cons _ t => vals_drop n t
end My
namespace My
open PySem PySem.Spec PyProof.Rows L2
/-! ### sorted of a dict, all its keys ints, as many as there are -/
def rSortW : List V → Hp → VK → Prop := fun ws H Q => ∃ (d : Addr) (pairs : List (Key × V)) (ns : List Int), ws = [.ref d] ∧ Rd H d (.dK pairs) ∧ pairs.map (·.1) = ns.map Sum.inl ∧ ns.length ≤ sizeLine ∧
  ∀ (zs : List Int) (q : Addr), zs.Perm ns → zs.Pairwise (· ≤ ·) → H q = none → Q (.ref q) (upd H q (.lst (zs.map V.int)))
section
variable {X : Cx}
theorem sortedW (calm : X.calm = true) : CallR X (.builtin "sorted") rSortW := by
  intro pins st σ H ws us Q inv rel ⟨d, pairs, ns, ew, rd, ek, hz, cont⟩
  subst ew
  obtain ⟨u, eu, ru⟩ := vals1 rel
  subst eu
  cases ru
  obtain ⟨_, lo, kv, rl, dd⟩ := dk_rd inv.hok rd
  obtain ⟨ep, at1⟩ := dd.dictAt
  have keys : kv.map (·.1) = ns.map Sum.inl := rl.keys.symm.trans ek
  have len : kv.length = ns.length := by
    have := congrArg List.length keys
    simpa using this
  refine Calls.call_function_entry kind_sorted plain_sorted entry_sorted (args_sorted1 _) ?_
  unfold Builtin.«sorted»
  refine wpAny_bind (m := checkCount "sorted" 1 1 _) (wpAny_pure ?_)
  refine wpAny_bind (PySem.W.kdu_collect (A := X.A.in1) (PySem.W.kdl_dict (knd := mixKind X.prog X.w) (kvs := kv) (ep := ep) lo) (inv.ok.hd calm) at1 (by rw [len]; exact hz) fun h2 tk got keep hgot => ?_)
  have glen : got.toList.length = ns.length := by rw [Array.length_toList, hgot.1, len]
  have allI : IntsAre got.toList ns := ints_each glen fun j v e => by
    obtain ⟨k, _, e1, e2⟩ := hgot.2 j v (by rw [← Array.getElem?_toList]; exact e)
    have e3 : (ns.map (Sum.inl : Int → Key))[j]? = some k := by rw [← keys, List.getElem?_map, e1]; rfl
    rw [List.getElem?_map] at e3
    cases e4 : ns[j]? with
    | none =>
      rw [e4] at e3
      cases e3
    | some y =>
      rw [e4] at e3
      cases e3
      rcases keyIs_shape (show keyIs (Sum.inl y) v = true from e2) with ⟨i, t, ek, ev⟩ | ⟨z, t, ek, _⟩
      · cases ek
        exact ⟨y, t, rfl, ev⟩
      · cases ek
  have inv2 : Inv X pins σ H { st with heap := h2, toks := tk } := inv.kept keep
  refine wpAny_bind (wpAny_newList ?_ (by rw [glen]; exact hz))
  have here : (h2.push (seqObj "list" got.toList.toArray 0)).get? h2.objs.size = some (seqObj "list" got.toList.toArray 0) := Heap.get?_push_size _ rfl
  show wpAny _ _ _ _ _ { st with heap := h2.push (seqObj "list" got.toList.toArray 0), toks := tk }
  refine wpAny_bind (wpAny_holding (wpAny_call_entry slot_list_sort ⟨_, here, rfl⟩ entry_list_sort (SrtO.list_sort_ord SrtO.swo_int here (by rw [glen]; exact hz) (fun two => SrtO.ints_sortable allI two) fun out o1 o2 => ⟨_, rfl, ?_⟩) (args_list_sort _)))
  obtain ⟨w1, w2, w3⟩ := SrtO.ints_out allI o1 o2
  obtain ⟨ep2, at2⟩ := sortedHeap_at (vs := got.toList) (out := out.toArray) here
  have fits : ((out.map SrtO.iv).map V.int).length ≤ sizeLine := by
    rw [List.length_map, w2.length_eq]
    exact hz
  refine wpAny_pure ⟨_, rfl, .ref h2.objs.size, _, inv2.laid (t' := tk) (fun b o e => ?_) (Nat.le_refl _) (show ObjOk X.prog X.w _ _ _ (.lst ((out.map SrtO.iv).map V.int)) from ⟨fits, out, ep2, vals_of_ints w1, at2⟩), rfl, cont _ _ w2 w3 (inv2.hok.fresh (Nat.le_refl _))⟩
  have lt : b < h2.objs.size := Heap.lt_size e
  rw [sortedHeap_old (Nat.ne_of_lt lt) (by rw [size_push']; exact Nat.lt_succ_of_lt lt)]
  exact Heap.get?_push_of_some _ e
end
end My
namespace My
open PySem PySem.Spec PyProof.Rows L2
/-! ### tuple.count of a text, among texts -/
def rTupCnt (K : PySem.W.Frag) : V → List V → Hp → VK → Prop := fun x xs H Q => ∃ (p : Addr) (ys : List Str) (z : Str), x = .ref p ∧ xs = [.str z] ∧ SqT K H p (ys.map V.str) ∧ Q (.int (ys.count z : Nat)) H
section
variable {X : Cx} {K : PySem.W.Frag}
theorem cnt_vals {z : Str} : ∀ {ys : List Str} {us : List Value}, Vals (ys.map V.str) us → us.countP (eqU (.str z)) = ys.count z
  | [], _, .nil => rfl
  | y :: ys, _, .cons (b := u) r t => by
    obtain ⟨k, rfl⟩ : ∃ k, u = Value.str y k := r
    have h1 := cnt_vals (z := z) t
    rw [List.countP_cons, h1, List.count_cons]
    congr 1
theorem tup_count : MtR X "tuple.count" (rTupCnt X.K) := by
  intro pins st S0 H x xs v us Q inv rel args hyp
  obtain ⟨p, ys, z, ex, exs, seq, cont⟩ := hyp
  subst ex exs
  cases rel
  obtain ⟨u, eu, ru⟩ := vals1 args
  obtain ⟨t, et⟩ := ru
  subst eu et
  obtain ⟨items, rv, plain, small⟩ := inv.tuple seq
  obtain ⟨⟨kind, dic, dat, slo⟩, at1, ek, n, ed⟩ := plain
  simp only at ek ed
  subst ek ed
  refine call_meets PySem.F.slot_tuple_count ⟨_, at1, rfl⟩ PySem.F.entry_tuple_count (PySem.F.args_tuple_count_2 _ _)
    (SeqAt.tuple_countAt p items.toArray n dic slo (.str z t) (eqU (.str z))) ⟨at1, fun w hw => mem_eqAt (x := .str z) ⟨t, rfl⟩ rfl rv (flat_strs ys) w (by simpa using hw), ?_⟩
  rw [show items.toArray.toList.countP (eqU (.str z)) = ys.count z from cnt_vals rv]
  exact ⟨.int (ys.count z : Nat), H, inv.tok _, ⟨_, rfl⟩, cont⟩
/-- tuple(list): what is made is held as it stands, with no dict -/
def rTupleNew (K : PySem.W.Frag) : List V → Hp → VK → Prop := fun xs H Q => ∃ p ys, xs = [.ref p] ∧ SqL K H p ys ∧ ∀ l o, H l = none → o.dict = Option.none → Q (.ref l) (upd H l (.frz o (.tup ys)))
theorem tuple_new : CallR X (.type "tuple") (rTupleNew X.K) := by
  intro pins st S0 H xs us Q inv args hyp
  obtain ⟨p, ys, ex, seq, cont⟩ := hyp
  subst ex
  obtain ⟨u, eu, ru⟩ := vals1 args
  subst eu
  cases ru
  obtain ⟨items, rv, plain, small⟩ := inv.list seq
  have len := rv.length
  refine call_tuple_list plain.isList (fun h1 keep => ?_) (by simp only [List.size_toArray] <;> omega)
  have I1 : Inv X pins S0 H { st with heap := h1 } := inv.kept (t' := st.toks) keep
  have new : (h1.push { cls := .type "tuple", data := .seq items.toArray }).get? h1.objs.size = some { cls := .type "tuple", data := .seq items.toArray } := Heap.get?_push_size _ rfl
  have I2 : Inv X pins S0 (upd H h1.objs.size (.frz { cls := .type "tuple", data := .seq items.toArray } (.tup ys))) { st with heap := h1.push { cls := .type "tuple", data := .seq items.toArray } } :=
    I1.laid (t' := st.toks) (fun b o e => Heap.get?_push_of_some _ e) (Nat.le_refl _) (show ObjOk X.prog X.w _ _ _ (.frz _ (.tup ys)) from ⟨new, small, items, rv, IsTup.new _ _⟩)
  exact ⟨.ref h1.objs.size, _, I2, rfl, cont _ _ (I1.hok.fresh (Nat.le_refl _)) rfl⟩
theorem tuple_newK (h : X.K = K) : CallR X (.type "tuple") (rTupleNew K) := by subst h; exact tuple_new
/-- a tuple with no dict -/
def FrzT (H : Hp) (p : Addr) : Prop := ∃ o xs, H p = some (.frz o (.tup xs)) ∧ o.dict = Option.none
def tBMT (r : V → List V → Hp → VK → Prop) (to : TE) (t : TA) : TE := fun σ H Q => to σ H fun x H1 => (∃ p, x = .ref p ∧ FrzT H1 p) ∧ t σ H1 fun xs H2 => r x xs H2 Q
theorem pe_bmT {o e : Expr} {es : List Expr} {to : TE} {t : TA} {name : Str} {apos cpos : Pos} {id : String} {r : V → List V → Hp → VK → Prop} (pa : PlainAttrs "tuple") (slot : Slot "tuple" name id) (hty : typeOf (.builtin id) = pure (.type "method_descriptor")) (hm : MtR X id r) (ho : PE X o to) (ha : PA X (e :: es) t)
    (base : attributeBase o name X.env (eval o X.env) = eval o X.env := by rfl)
    (few : ((backTo cpos (starEach (e :: es) X.env)).all (fun z => !z.1) && (backToKw cpos (keywordEach [] X.env)).all (fun z => z.1.isSome) && decide ((e :: es).length + ([] : List Keyword).length + (if ([] : List Keyword).isEmpty then 0 else 1) < 30)) = true := by rfl)
    (line : (apos.endLine == cpos.line) = true := by rfl) (star : starEach (e :: es) X.env = (false, eval e X.env) :: starEach es X.env := by rfl) (plain : (backTo cpos (starEach es X.env)).any (·.1) = false := by rfl) :
    PE X (.Call (.Attribute o name apos) (e :: es) [] cpos) (tBMT r to t) := by
  refine ⟨fun pins st S0 H Q I h => ?_⟩
  refine wpAny_Call_method_late base few line rfl (thn (ho.run pins st S0 H _ I h) fun v s1 ⟨x, H1, I1, r1, ty, q1⟩ => ?_)
  obtain ⟨p, ex, ob, xs, hp, hd⟩ := ty
  subst ex
  cases r1
  obtain ⟨e1, _, _, _, ob2, e2, ek, _⟩ := (show ObjOk X.prog X.w H1 s1.heap p (.frz ob (.tup xs)) from I1.hok p _ hp)
  have eo : ob2 = ob := by
    rw [e1] at e2
    exact (Option.some.inj e2).symm
  subst eo
  refine ⟨"tuple", id, pa, slot, hty, ⟨ob2, e1, ek⟩, fun a ea => by cases ea; exact ⟨ob2, e1, hd⟩, ?_⟩
  have run := ha.run cpos pins s1 S0 H1 _ I1 q1
  rw [star] at run ⊢
  refine Calls.callWith_builtin (by show (false || (backTo cpos (starEach es X.env)).any (·.1)) = false; rw [plain]; rfl) (Calls.evalArgs_plain ?_)
  exact thn run fun us s2 ⟨vs, H2, I2, r2, q2⟩ => hm pins s2 S0 H2 (.ref p) vs (.ref p) us Q I2 rfl r2 q2
theorem FrzT.same {H H' : Hp} {p : Addr} (s : Same H H') (h : FrzT H p) : FrzT H' p := by
  obtain ⟨o, xs, e, d⟩ := h
  exact ⟨o, xs, s _ _ e, d⟩
theorem tup_countK (h : X.K = K) : MtR X "tuple.count" (rTupCnt K) := by subst h; exact tup_count
end
end My

namespace My
open PySem PySem.Spec PyProof.Rows L2
set_option maxHeartbeats 4000000
/-! ### tuple * int, also by 0 and by 1 -/
theorem mul_once (l : Addr) (items : Array Value) (n : Nat) (dd : Option Addr) (sl : Array (Option Value)) (u : Tok) :
    Meets (Builtin.«tuple.__mul__» ⟨[.ref l, .int 1 u], []⟩) (fun _ R s => s.heap.get? l = some { cls := .type "tuple", dict := dd, data := .seq items n, slots := sl } ∧ R (.ok (.ret (Value.ref l))) s) := .of_wp fun prog w A R s hyp => by
  obtain ⟨hp, g, d, tk, os⟩ := s
  obtain ⟨at1, cont⟩ := hyp
  have f1 := AutoSeq1.idx_int
  wp_walk using wpAny_loadPart' at1
  exact ⟨_, rfl, cont⟩
theorem mul_none (l : Addr) (items : Array Value) (n : Nat) (dd : Option Addr) (sl : Array (Option Value)) (u : Tok) (c1 : items.isEmpty = false) :
    Meets (Builtin.«tuple.__mul__» ⟨[.ref l, .int 0 u], []⟩) (fun _ R s => s.heap.get? l = some { cls := .type "tuple", dict := dd, data := .seq items n, slots := sl } ∧ R (.ok (.ret (Value.ref s.heap.objs.size))) { s with heap := s.heap.push { cls := Value.type "tuple", data := Data.seq #[] }, toks := s.toks }) := .of_wp fun prog w A R s hyp => by
  obtain ⟨hp, g, d, tk, os⟩ := s
  obtain ⟨at1, cont⟩ := hyp
  have f1 := AutoSeq1.idx_int
  wp_walk using wpAny_loadPart' at1
  exact ⟨_, rfl, cont⟩
def rRepA (K : PySem.W.Frag) : R2 := fun x y H Q => ∃ l k xs, x = .ref l ∧ y = .int k ∧ SqT K H l xs ∧ xs ≠ [] ∧ 0 ≤ k ∧ k ≤ 1000 ∧ xs.length ≤ 1000 ∧ (k = 1 → Q (.ref l) H) ∧ (k ≠ 1 → ∀ p, H p = none → Q (.ref p) (upd H p (.tup (List.replicate k.toNat xs).flatten)))
section
variable {X : Cx}
theorem op_repA : OpR X (binaryOp .Mult) (rRepA X.K) := by
  intro pins st S0 H x y v u Q inv rel rel2 hyp
  obtain ⟨l, k, xs, ex, ey, seq, hne, h0, h1, hz, q1, q2⟩ := hyp
  subst ex ey
  by_cases k2 : 2 ≤ k
  · exact op_repT pins st S0 H _ _ v u Q inv rel rel2 ⟨l, k, xs, rfl, rfl, seq, hne, k2, h1, hz, q2 (by omega)⟩
  cases rel
  obtain ⟨t, et⟩ := rel2
  subst et
  obtain ⟨items, rv, plain, small⟩ := inv.tuple seq
  obtain ⟨⟨kind, dic, dat, slo⟩, at1, ek, n, ed⟩ := plain
  simp only at ek ed
  subst ek ed
  have full : items.toArray.isEmpty = false := by
    cases items with
    | nil => exact absurd (List.eq_nil_of_length_eq_zero rv.length) hne
    | cons a b => rfl
  rcases (show k = 0 ∨ k = 1 by omega) with e | e
  · subst e
    refine wpAny_binaryOp_repeat_ref (T := "tuple") (U := "int") (by decide) ⟨_, at1, rfl⟩ (fun s2 => typeIs_int s2 0 t) noFill_tuple_mul F.fills_int_mul F.slot_int_rmul repeat_tuple F.slot_int_index.lookup
      (call_meets F.slot_int_rmul (typeIs_int st 0 t) F.entry_int_rmul (F.args_int_rmul_2 _ _) (int_rmul_tuple 0 t l items.toArray n dic slo) ⟨at1, rfl, ⟨_, at1, rfl⟩, call_meets F.slot_tuple_mul ⟨_, at1, rfl⟩ F.entry_tuple_mul (F.args_tuple_mul_2 _ _) (mul_none l items.toArray n dic slo t full) ⟨at1, ?_⟩⟩)
    exact ⟨.ref st.heap.objs.size, _, inv.laid (t' := st.toks) (o := .tup []) (fun b ob q => Heap.get?_push_of_some _ q) (Nat.le_refl _) ⟨Nat.zero_le _, [], .nil, IsTup.new _ _⟩, rfl, q2 (by decide) _ (inv.hok.fresh (Nat.le_refl _))⟩
  · subst e
    refine wpAny_binaryOp_repeat_ref (T := "tuple") (U := "int") (by decide) ⟨_, at1, rfl⟩ (fun s2 => typeIs_int s2 1 t) noFill_tuple_mul F.fills_int_mul F.slot_int_rmul repeat_tuple F.slot_int_index.lookup
      (call_meets F.slot_int_rmul (typeIs_int st 1 t) F.entry_int_rmul (F.args_int_rmul_2 _ _) (int_rmul_tuple 1 t l items.toArray n dic slo) ⟨at1, rfl, ⟨_, at1, rfl⟩, call_meets F.slot_tuple_mul ⟨_, at1, rfl⟩ F.entry_tuple_mul (F.args_tuple_mul_2 _ _) (mul_once l items.toArray n dic slo t) ⟨at1, ?_⟩⟩)
    exact ⟨.ref l, H, inv, rfl, q1 rfl⟩
theorem repAK {K : PySem.W.Frag} (h : X.K = K) : OpR X (binaryOp .Mult) (rRepA K) := by subst h; exact op_repA
end
end My
set_option maxHeartbeats 0
namespace K25
open PySem PySem.Spec PyProof.Rows L2
def top (i : Nat) : Stmt := PySem.Challenge.pw_lockerwall_k25_letters_and_codes.main.body.getD i (.Pass ⟨0, 0, 0, 0⟩)
abbrev s_wall : Stmt := top 0
abbrev N_wall : List Str := ["k"]
theorem sc_wall : FnScope N_wall ["k"] (defScope s_wall) := C8.fnScope_by (by decide +kernel)
def d_wall : He.DefD := ⟨("_wall", none), "_wall", "_wall", defArgs s_wall, defBody s_wall, defScope s_wall, [], []⟩
abbrev s_Told_init : Stmt := inClass (top 2) 0
abbrev N_Told_init : List Str := ["self"]
theorem sc_Told_init : FnScope N_Told_init ["self"] (defScope s_Told_init) := C8.fnScope_by (by decide +kernel)
def d_Told_init : He.DefD := ⟨("Told", some "__init__"), "__init__", "Told.__init__", defArgs s_Told_init, defBody s_Told_init, defScope s_Told_init, [], []⟩
abbrev s_Told_report : Stmt := inClass (top 2) 1
abbrev N_Told_report : List Str := ["self"]
theorem sc_Told_report : FnScope N_Told_report ["self"] (defScope s_Told_report) := C8.fnScope_by (by decide +kernel)
def d_Told_report : He.DefD := ⟨("Told", some "report"), "report", "Told.report", defArgs s_Told_report, defBody s_Told_report, defScope s_Told_report, [], []⟩
abbrev s_Box_init : Stmt := inClass (top 3) 0
abbrev N_Box_init : List Str := ["self"]
theorem sc_Box_init : FnScope N_Box_init ["self"] (defScope s_Box_init) := C8.fnScope_by (by decide +kernel)
def d_Box_init : He.DefD := ⟨("Box", some "__init__"), "__init__", "Box.__init__", defArgs s_Box_init, defBody s_Box_init, defScope s_Box_init, [], []⟩
abbrev s_Box_copied : Stmt := inClass (top 3) 1
abbrev N_Box_copied : List Str := ["self"]
theorem sc_Box_copied : FnScope N_Box_copied ["self"] (defScope s_Box_copied) := C8.fnScope_by (by decide +kernel)
def d_Box_copied : He.DefD := ⟨("Box", some "copied"), "copied", "Box.copied", defArgs s_Box_copied, defBody s_Box_copied, defScope s_Box_copied, [], []⟩
abbrev s_Box_stands : Stmt := inClass (top 3) 2
abbrev N_Box_stands : List Str := ["self"]
theorem sc_Box_stands : FnScope N_Box_stands ["self"] (defScope s_Box_stands) := C8.fnScope_by (by decide +kernel)
def d_Box_stands : He.DefD := ⟨("Box", some "stands"), "stands", "Box.stands", defArgs s_Box_stands, defBody s_Box_stands, defScope s_Box_stands, [], []⟩
abbrev s_Box_bring : Stmt := inClass (top 3) 3
abbrev N_Box_bring : List Str := ["self", "book", "parcel", "lays", "shuts", "told"]
theorem sc_Box_bring : FnScope N_Box_bring ["self", "book", "parcel", "lays", "shuts"] (defScope s_Box_bring) := C8.fnScope_by (by decide +kernel)
def d_Box_bring : He.DefD := ⟨("Box", some "bring"), "bring", "Box.bring", defArgs s_Box_bring, defBody s_Box_bring, defScope s_Box_bring, [], []⟩
abbrev s_Box_code : Stmt := inClass (top 3) 4
abbrev N_Box_code : List Str := ["self", "book", "parcel", "takes", "shuts", "told", "missing"]
theorem sc_Box_code : FnScope N_Box_code ["self", "book", "parcel", "takes", "shuts"] (defScope s_Box_code) := C8.fnScope_by (by decide +kernel)
def d_Box_code : He.DefD := ⟨("Box", some "code"), "code", "Box.code", defArgs s_Box_code, defBody s_Box_code, defScope s_Box_code, [], []⟩
abbrev s_Box_pass_by : Stmt := inClass (top 3) 5
abbrev N_Box_pass_by : List Str := ["self", "told"]
theorem sc_Box_pass_by : FnScope N_Box_pass_by ["self"] (defScope s_Box_pass_by) := C8.fnScope_by (by decide +kernel)
def d_Box_pass_by : He.DefD := ⟨("Box", some "pass_by"), "pass_by", "Box.pass_by", defArgs s_Box_pass_by, defBody s_Box_pass_by, defScope s_Box_pass_by, [], []⟩
abbrev s_Box_day : Stmt := inClass (top 3) 6
abbrev N_Box_day : List Str := ["self", "book", "told"]
theorem sc_Box_day : FnScope N_Box_day ["self", "book"] (defScope s_Box_day) := C8.fnScope_by (by decide +kernel)
def d_Box_day : He.DefD := ⟨("Box", some "day"), "day", "Box.day", defArgs s_Box_day, defBody s_Box_day, defScope s_Box_day, [], []⟩
abbrev s_Box_power : Stmt := inClass (top 3) 7
abbrev N_Box_power : List Str := ["self", "book", "told"]
theorem sc_Box_power : FnScope N_Box_power ["self", "book"] (defScope s_Box_power) := C8.fnScope_by (by decide +kernel)
def d_Box_power : He.DefD := ⟨("Box", some "power"), "power", "Box.power", defArgs s_Box_power, defBody s_Box_power, defScope s_Box_power, [], []⟩
abbrev s_Box_let_take : Stmt := inClass (top 3) 8
abbrev N_Box_let_take : List Str := ["self", "own", "told", "parcel"]
theorem sc_Box_let_take : FnScope N_Box_let_take ["self", "own", "told"] (defScope s_Box_let_take) := C8.fnScope_by (by decide +kernel)
def d_Box_let_take : He.DefD := ⟨("Box", some "_let_take"), "_let_take", "Box._let_take", defArgs s_Box_let_take, defBody s_Box_let_take, defScope s_Box_let_take, [], []⟩
abbrev s_Box_go_away : Stmt := inClass (top 3) 9
abbrev N_Box_go_away : List Str := ["self", "book", "shuts", "moments", "told", "when_shut", "when_left"]
theorem sc_Box_go_away : FnScope N_Box_go_away ["self", "book", "shuts", "moments", "told"] (defScope s_Box_go_away) := C8.fnScope_by (by decide +kernel)
def d_Box_go_away : He.DefD := ⟨("Box", some "_go_away"), "_go_away", "Box._go_away", defArgs s_Box_go_away, defBody s_Box_go_away, defScope s_Box_go_away, [], []⟩
abbrev s_Box_carry_out : Stmt := inClass (top 3) 10
abbrev N_Box_carry_out : List Str := ["self", "book", "moment", "told", "action"]
theorem sc_Box_carry_out : FnScope N_Box_carry_out ["self", "book", "moment", "told"] (defScope s_Box_carry_out) := C8.fnScope_by (by decide +kernel)
def d_Box_carry_out : He.DefD := ⟨("Box", some "_carry_out"), "_carry_out", "Box._carry_out", defArgs s_Box_carry_out, defBody s_Box_carry_out, defScope s_Box_carry_out, [], []⟩
abbrev s_Box_act : Stmt := inClass (top 3) 11
abbrev N_Box_act : List Str := ["self", "action", "told"]
theorem sc_Box_act : FnScope N_Box_act ["self", "action", "told"] (defScope s_Box_act) := C8.fnScope_by (by decide +kernel)
def d_Box_act : He.DefD := ⟨("Box", some "_act"), "_act", "Box._act", defArgs s_Box_act, defBody s_Box_act, defScope s_Box_act, [], []⟩
abbrev s_Box_send_code : Stmt := inClass (top 3) 12
abbrev N_Box_send_code : List Str := ["self", "told"]
theorem sc_Box_send_code : FnScope N_Box_send_code ["self", "told"] (defScope s_Box_send_code) := C8.fnScope_by (by decide +kernel)
def d_Box_send_code : He.DefD := ⟨("Box", some "_send_code"), "_send_code", "Box._send_code", defArgs s_Box_send_code, defBody s_Box_send_code, defScope s_Box_send_code, [], []⟩
abbrev s_do_deed : Stmt := top 4
abbrev N_do_deed : List Str := ["book", "box", "deed", "parcel", "word"]
theorem sc_do_deed : FnScope N_do_deed ["book", "box", "deed", "parcel"] (defScope s_do_deed) := C8.fnScope_by (by decide +kernel)
def d_do_deed : He.DefD := ⟨("do_deed", none), "do_deed", "do_deed", defArgs s_do_deed, defBody s_do_deed, defScope s_do_deed, [], []⟩
abbrev s_is_integer_within : Stmt := top 6
abbrev N_is_integer_within : List Str := ["value", "low", "high"]
theorem sc_is_integer_within : FnScope N_is_integer_within ["value", "low", "high"] (defScope s_is_integer_within) := C8.fnScope_by (by decide +kernel)
def d_is_integer_within : He.DefD := ⟨("is_integer_within", none), "is_integer_within", "is_integer_within", defArgs s_is_integer_within, defBody s_is_integer_within, defScope s_is_integer_within, [], []⟩
abbrev s_is_truth : Stmt := top 7
abbrev N_is_truth : List Str := ["value"]
theorem sc_is_truth : FnScope N_is_truth ["value"] (defScope s_is_truth) := C8.fnScope_by (by decide +kernel)
def d_is_truth : He.DefD := ⟨("is_truth", none), "is_truth", "is_truth", defArgs s_is_truth, defBody s_is_truth, defScope s_is_truth, [], []⟩
abbrev s_is_word : Stmt := top 8
abbrev N_is_word : List Str := ["value", "words"]
theorem sc_is_word : FnScope N_is_word ["value", "words"] (defScope s_is_word) := C8.fnScope_by (by decide +kernel)
def d_is_word : He.DefD := ⟨("is_word", none), "is_word", "is_word", defArgs s_is_word, defBody s_is_word, defScope s_is_word, [], []⟩
abbrev s_are_truths : Stmt := top 19
abbrev N_are_truths : List Str := ["values", "value"]
theorem sc_are_truths : FnScope N_are_truths ["values"] (defScope s_are_truths) := C8.fnScope_by (by decide +kernel)
def d_are_truths : He.DefD := ⟨("are_truths", none), "are_truths", "are_truths", defArgs s_are_truths, defBody s_are_truths, defScope s_are_truths, [], []⟩
abbrev s_is_deed : Stmt := top 20
abbrev N_is_deed : List Str := ["value", "word"]
theorem sc_is_deed : FnScope N_is_deed ["value"] (defScope s_is_deed) := C8.fnScope_by (by decide +kernel)
def d_is_deed : He.DefD := ⟨("is_deed", none), "is_deed", "is_deed", defArgs s_is_deed, defBody s_is_deed, defScope s_is_deed, [], []⟩
abbrev s_check_are_deeds : Stmt := top 21
abbrev N_check_are_deeds : List Str := ["deeds", "index", "deed"]
theorem sc_check_are_deeds : FnScope N_check_are_deeds ["deeds"] (defScope s_check_are_deeds) := C8.fnScope_by (by decide +kernel)
def d_check_are_deeds : He.DefD := ⟨("check_are_deeds", none), "check_are_deeds", "check_are_deeds", defArgs s_check_are_deeds, defBody s_check_are_deeds, defScope s_check_are_deeds, [], []⟩
abbrev s_check_playable : Stmt := top 22
abbrev N_check_playable : List Str := ["deeds", "brought", "index", "deed"]
theorem sc_check_playable : FnScope N_check_playable ["deeds"] (defScope s_check_playable) := C8.fnScope_by (by decide +kernel)
def d_check_playable : He.DefD := ⟨("check_playable", none), "check_playable", "check_playable", defArgs s_check_playable, defBody s_check_playable, defScope s_check_playable, [], []⟩
abbrev s_played : Stmt := top 24
abbrev N_played : List Str := ["book", "deeds", "box", "brought", "story", "deed"]
theorem sc_played : FnScope N_played ["book", "deeds"] (defScope s_played) := C8.fnScope_by (by decide +kernel)
def d_played : He.DefD := ⟨("played", none), "played", "played", defArgs s_played, defBody s_played, defScope s_played, [], []⟩
abbrev s_play : Stmt := top 25
abbrev N_play : List Str := ["book", "deeds", "_", "story", "told"]
theorem sc_play : FnScope N_play ["book", "deeds"] (defScope s_play) := C8.fnScope_by (by decide +kernel)
def d_play : He.DefD := ⟨("play", none), "play", "play", defArgs s_play, defBody s_play, defScope s_play, [], []⟩
abbrev s_faults : Stmt := top 26
abbrev N_faults : List Str := ["book", "deeds", "_", "story", "index", "told", "kind"]
theorem sc_faults : FnScope N_faults ["book", "deeds"] (defScope s_faults) := C8.fnScope_by (by decide +kernel)
def d_faults : He.DefD := ⟨("faults", none), "faults", "faults", defArgs s_faults, defBody s_faults, defScope s_faults, [], []⟩
abbrev s_boxes : Stmt := top 27
abbrev N_boxes : List Str := ["book", "deeds", "box", "_"]
theorem sc_boxes : FnScope N_boxes ["book", "deeds"] (defScope s_boxes) := C8.fnScope_by (by decide +kernel)
def d_boxes : He.DefD := ⟨("boxes", none), "boxes", "boxes", defArgs s_boxes, defBody s_boxes, defScope s_boxes, [], []⟩
abbrev s_is_rule : Stmt := top 33
abbrev N_is_rule : List Str := ["value", "action"]
theorem sc_is_rule : FnScope N_is_rule ["value"] (defScope s_is_rule) := C8.fnScope_by (by decide +kernel)
def d_is_rule : He.DefD := ⟨("is_rule", none), "is_rule", "is_rule", defArgs s_is_rule, defBody s_is_rule, defScope s_is_rule, [], []⟩
abbrev s_Book_init : Stmt := inClass (top 34) 0
abbrev N_Book_init : List Str := ["self", "days", "given", "laid", "left", "opened", "taken", "gone", "late", "power", "rules", "moment", "rule"]
theorem sc_Book_init : FnScope N_Book_init ["self", "days", "given", "laid", "left", "opened", "taken", "gone", "late", "power"] (defScope s_Book_init) := C8.fnScope_by (by decide +kernel)
def d_Book_init : He.DefD := ⟨("Book", some "__init__"), "__init__", "Book.__init__", defArgs s_Book_init, defBody s_Book_init, defScope s_Book_init, [.adr (He.dflAt ("Book", some "__init__") 0), .adr (He.dflAt ("Book", some "__init__") 1), .adr (He.dflAt ("Book", some "__init__") 2), .adr (He.dflAt ("Book", some "__init__") 3), .adr (He.dflAt ("Book", some "__init__") 4), .adr (He.dflAt ("Book", some "__init__") 5), .adr (He.dflAt ("Book", some "__init__") 6), .adr (He.dflAt ("Book", some "__init__") 7)], []⟩
abbrev s_Book_eq : Stmt := inClass (top 34) 1
abbrev N_Book_eq : List Str := ["self", "other"]
theorem sc_Book_eq : FnScope N_Book_eq ["self", "other"] (defScope s_Book_eq) := C8.fnScope_by (by decide +kernel)
def d_Book_eq : He.DefD := ⟨("Book", some "__eq__"), "__eq__", "Book.__eq__", defArgs s_Book_eq, defBody s_Book_eq, defScope s_Book_eq, [], []⟩
abbrev s_Book_days : Stmt := inClass (top 34) 2
abbrev N_Book_days : List Str := ["self"]
theorem sc_Book_days : FnScope N_Book_days ["self"] (defScope s_Book_days) := C8.fnScope_by (by decide +kernel)
def d_Book_days : He.DefD := ⟨("Book", some "days"), "days", "Book.days", defArgs s_Book_days, defBody s_Book_days, defScope s_Book_days, [], []⟩
abbrev s_Book_rule : Stmt := inClass (top 34) 3
abbrev N_Book_rule : List Str := ["self", "moment"]
theorem sc_Book_rule : FnScope N_Book_rule ["self", "moment"] (defScope s_Book_rule) := C8.fnScope_by (by decide +kernel)
def d_Book_rule : He.DefD := ⟨("Book", some "rule"), "rule", "Book.rule", defArgs s_Book_rule, defBody s_Book_rule, defScope s_Book_rule, [], []⟩
abbrev s_Book_rules : Stmt := inClass (top 34) 4
abbrev N_Book_rules : List Str := ["self"]
theorem sc_Book_rules : FnScope N_Book_rules ["self"] (defScope s_Book_rules) := C8.fnScope_by (by decide +kernel)
def d_Book_rules : He.DefD := ⟨("Book", some "rules"), "rules", "Book.rules", defArgs s_Book_rules, defBody s_Book_rules, defScope s_Book_rules, [], []⟩
abbrev s_Book_with_rule : Stmt := inClass (top 34) 5
abbrev N_Book_with_rule : List Str := ["self", "moment", "rule"]
theorem sc_Book_with_rule : FnScope N_Book_with_rule ["self", "moment", "rule"] (defScope s_Book_with_rule) := C8.fnScope_by (by decide +kernel)
def d_Book_with_rule : He.DefD := ⟨("Book", some "with_rule"), "with_rule", "Book.with_rule", defArgs s_Book_with_rule, defBody s_Book_with_rule, defScope s_Book_with_rule, [], []⟩
abbrev s_Book_with_days : Stmt := inClass (top 34) 6
abbrev N_Book_with_days : List Str := ["self", "days"]
theorem sc_Book_with_days : FnScope N_Book_with_days ["self", "days"] (defScope s_Book_with_days) := C8.fnScope_by (by decide +kernel)
def d_Book_with_days : He.DefD := ⟨("Book", some "with_days"), "with_days", "Book.with_days", defArgs s_Book_with_days, defBody s_Book_with_days, defScope s_Book_with_days, [], []⟩
abbrev s_Book_taking : Stmt := inClass (top 34) 7
abbrev N_Book_taking : List Str := ["self", "good", "moments"]
theorem sc_Book_taking : FnScope N_Book_taking ["self", "good", "moments"] (defScope s_Book_taking) := C8.fnScope_by (by decide +kernel)
def d_Book_taking : He.DefD := ⟨("Book", some "taking"), "taking", "Book.taking", defArgs s_Book_taking, defBody s_Book_taking, defScope s_Book_taking, [], []⟩
abbrev s_law_spring : Stmt := top 36
abbrev N_law_spring : List Str := ["script", "k", "cell"]
theorem sc_law_spring : FnScope N_law_spring ["script", "k"] (defScope s_law_spring) := C8.fnScope_by (by decide +kernel)
def d_law_spring : He.DefD := ⟨("_law_spring", none), "_law_spring", "_law_spring", defArgs s_law_spring, defBody s_law_spring, defScope s_law_spring, [], []⟩
abbrev s_law_drop : Stmt := top 37
abbrev N_law_drop : List Str := ["spring", "many", "found", "stirred"]
theorem sc_law_drop : FnScope N_law_drop ["spring", "many"] (defScope s_law_drop) := C8.fnScope_by (by decide +kernel)
def d_law_drop : He.DefD := ⟨("_law_drop", none), "_law_drop", "_law_drop", defArgs s_law_drop, defBody s_law_drop, defScope s_law_drop, [], []⟩
abbrev s_law_springs : Stmt := top 38
abbrev N_law_springs : List Str := ["script", "k"]
theorem sc_law_springs : FnScope N_law_springs ["script"] (defScope s_law_springs) := C8.fnScope_by (by decide +kernel)
def d_law_springs : He.DefD := ⟨("_law_springs", none), "_law_springs", "_law_springs", defArgs s_law_springs, defBody s_law_springs, defScope s_law_springs, [], []⟩
abbrev s_law_made : Stmt := top 39
abbrev N_law_made : List Str := ["limit", "rules"]
theorem sc_law_made : FnScope N_law_made ["limit", "rules"] (defScope s_law_made) := C8.fnScope_by (by decide +kernel)
def d_law_made : He.DefD := ⟨("_law_made", none), "_law_made", "_law_made", defArgs s_law_made, defBody s_law_made, defScope s_law_made, [], []⟩
abbrev s_law_is_whole : Stmt := top 40
abbrev N_law_is_whole : List Str := ["thing"]
theorem sc_law_is_whole : FnScope N_law_is_whole ["thing"] (defScope s_law_is_whole) := C8.fnScope_by (by decide +kernel)
def d_law_is_whole : He.DefD := ⟨("_law_is_whole", none), "_law_is_whole", "_law_is_whole", defArgs s_law_is_whole, defBody s_law_is_whole, defScope s_law_is_whole, [], []⟩
abbrev s_law_is_report : Stmt := top 41
abbrev N_law_is_report : List Str := ["thing", "one"]
theorem sc_law_is_report : FnScope N_law_is_report ["thing"] (defScope s_law_is_report) := C8.fnScope_by (by decide +kernel)
def d_law_is_report : He.DefD := ⟨("_law_is_report", none), "_law_is_report", "_law_is_report", defArgs s_law_is_report, defBody s_law_is_report, defScope s_law_is_report, [], []⟩
abbrev s_law_asked : Stmt := top 42
abbrev N_law_asked : List Str := ["work", "acts", "due", "kept", "told", "one"]
theorem sc_law_asked : FnScope N_law_asked ["work", "acts", "due"] (defScope s_law_asked) := C8.fnScope_by (by decide +kernel)
def d_law_asked : He.DefD := ⟨("_law_asked", none), "_law_asked", "_law_asked", defArgs s_law_asked, defBody s_law_asked, defScope s_law_asked, [], []⟩
abbrev s_law_stands : Stmt := top 43
abbrev N_law_stands : List Str := ["work", "acts", "due", "told", "one"]
theorem sc_law_stands : FnScope N_law_stands ["work", "acts", "due"] (defScope s_law_stands) := C8.fnScope_by (by decide +kernel)
def d_law_stands : He.DefD := ⟨("_law_stands", none), "_law_stands", "_law_stands", defArgs s_law_stands, defBody s_law_stands, defScope s_law_stands, [], []⟩
abbrev s_law_wrong : Stmt := top 44
abbrev N_law_wrong : List Str := ["work", "acts", "due", "kept", "told", "one"]
theorem sc_law_wrong : FnScope N_law_wrong ["work", "acts", "due"] (defScope s_law_wrong) := C8.fnScope_by (by decide +kernel)
def d_law_wrong : He.DefD := ⟨("_law_wrong", none), "_law_wrong", "_law_wrong", defArgs s_law_wrong, defBody s_law_wrong, defScope s_law_wrong, [], []⟩
abbrev s_law_act : Stmt := top 45
abbrev N_law_act : List Str := ["spring", "brought", "way", "lays", "place", "back"]
theorem sc_law_act : FnScope N_law_act ["spring", "brought"] (defScope s_law_act) := C8.fnScope_by (by decide +kernel)
def d_law_act : He.DefD := ⟨("_law_act", none), "_law_act", "_law_act", defArgs s_law_act, defBody s_law_act, defScope s_law_act, [], []⟩
abbrev s_law_code : Stmt := top 46
abbrev N_law_code : List Str := ["act", "k", "box", "sent", "wrong", "got", "parcel"]
theorem sc_law_code : FnScope N_law_code ["act", "k", "box", "sent", "wrong"] (defScope s_law_code) := C8.fnScope_by (by decide +kernel)
def d_law_code : He.DefD := ⟨("_law_code", none), "_law_code", "_law_code", defArgs s_law_code, defBody s_law_code, defScope s_law_code, [], []⟩
abbrev s_law_due : Stmt := top 47
abbrev N_law_due : List Str := ["days", "many", "acts", "found", "wrong", "sent", "box", "brought", "since", "k", "act", "letters", "is_given"]
theorem sc_law_due : FnScope N_law_due ["days", "many", "acts"] (defScope s_law_due) := C8.fnScope_by (by decide +kernel)
def d_law_due : He.DefD := ⟨("_law_due", none), "_law_due", "_law_due", defArgs s_law_due, defBody s_law_due, defScope s_law_due, [], []⟩
abbrev s_law : Stmt := top 48
abbrev N_law : List Str := ["script", "springs", "first", "days", "many", "brings", "fails", "rules", "acts", "brought", "spring", "turn", "work", "reports", "wrong", "stand"]
theorem sc_law : FnScope N_law ["script"] (defScope s_law) := C8.fnScope_by (by decide +kernel)
def d_law : He.DefD := ⟨("law", none), "law", "law", defArgs s_law, defBody s_law, defScope s_law, [], []⟩
def fa0 : List He.Fa := [.glo "_wall", .glo "do_deed", .glo "is_integer_within", .glo "is_truth", .glo "is_word", .glo "are_truths", .glo "is_deed", .glo "check_are_deeds", .glo "check_playable", .glo "played", .glo "play", .glo "faults", .glo "boxes", .glo "is_rule", .glo "_law_spring", .glo "_law_drop", .glo "_law_springs", .glo "_law_made", .glo "_law_is_whole", .glo "_law_is_report"]
def fa1 : List He.Fa := [.glo "_law_asked", .glo "_law_stands", .glo "_law_wrong", .glo "_law_act", .glo "_law_code", .glo "_law_due", .glo "law", .glo "Told", .glo "Box", .glo "Book", .glo "WallError", .glo "NoDays", .glo "NoRule", .glo "NoMoment", .glo "NoDeed", .glo "NoParcel", .int "MOST_PARCEL" 1000000000, .glo "SINGLE_WORDS", .glo "ACTIONS", .glo "MOMENTS"]
def fa2 : List He.Fa := [.int "MOST_ACTIONS" 6, .int "MOST_DAYS" 30, .free "len", .free "abs", .free "max", .free "min", .free "isinstance", .free "all", .free "any", .free "sorted", .free "zip", .free "enumerate", .free "super", .free "ValueError", .free "int", .free "str", .free "bool", .free "list", .free "tuple", .free "range"]
def fa3 : List He.Fa := [.cls "Told", .noat "Told" "letters", .noat "Told" "opened", .noat "Told" "got", .noat "Told" "lays", .noat "Told" "wrongs", .noat "Told" "moments", .meth "Told" "report", .mkr "Told", .cls "Box", .noat "Box" "ajar", .noat "Box" "inside", .noat "Box" "taken_for", .noat "Box" "valid", .noat "Box" "age", .noat "Box" "last", .noat "Box" "sent", .noat "Box" "served", .meth "Box" "copied", .meth "Box" "stands"]
def fa4 : List He.Fa := [.meth "Box" "bring", .meth "Box" "code", .meth "Box" "pass_by", .meth "Box" "day", .meth "Box" "power", .meth "Box" "_let_take", .meth "Box" "_go_away", .meth "Box" "_carry_out", .meth "Box" "_act", .meth "Box" "_send_code", .mkr "Box", .cls "Book", .noat "Book" "_days", .noat "Book" "_rules", .meth "Book" "__eq__", .meth "Book" "days", .meth "Book" "rule", .meth "Book" "rules", .meth "Book" "with_rule", .meth "Book" "with_days"]
def fa5 : List He.Fa := [.meth "Book" "taking", .mkr "Book"]
def fa : List He.Fa := fa0 ++ fa1 ++ fa2 ++ fa3 ++ fa4 ++ fa5
def fn0 : List He.DefD := [d_wall, d_Told_init, d_Told_report, d_Box_init, d_Box_copied, d_Box_stands, d_Box_bring, d_Box_code, d_Box_pass_by, d_Box_day, d_Box_power, d_Box_let_take, d_Box_go_away, d_Box_carry_out, d_Box_act, d_Box_send_code, d_do_deed, d_is_integer_within, d_is_truth, d_is_word]
def fn1 : List He.DefD := [d_are_truths, d_is_deed, d_check_are_deeds, d_check_playable, d_played, d_play, d_faults, d_boxes, d_is_rule, d_Book_init, d_Book_eq, d_Book_days, d_Book_rule, d_Book_rules, d_Book_with_rule, d_Book_with_days, d_Book_taking, d_law_spring, d_law_drop, d_law_springs]
def fn2 : List He.DefD := [d_law_made, d_law_is_whole, d_law_is_report, d_law_asked, d_law_stands, d_law_wrong, d_law_act, d_law_code, d_law_due, d_law]
def fn : List He.DefD := fn0 ++ fn1 ++ fn2
def exl (K : PySem.W.Frag) : List Bool := [My.tupAt K (He.ga K "SINGLE_WORDS") [.str "pass", .str "day", .str "power"], My.tupAt K (He.ga K "ACTIONS") [.str "free", .str "full", .str "off", .str "code", .str "void", .str "look", .str "lock"], My.tupAt K (He.ga K "MOMENTS") [.str "given", .str "laid", .str "left", .str "opened", .str "taken", .str "gone", .str "late", .str "power"], My.tupAt K (He.dflAt ("Book", some "__init__") 0 K) [], My.tupAt K (He.dflAt ("Book", some "__init__") 1 K) [], My.tupAt K (He.dflAt ("Book", some "__init__") 2 K) [], My.tupAt K (He.dflAt ("Book", some "__init__") 3 K) [], My.tupAt K (He.dflAt ("Book", some "__init__") 4 K) [], My.tupAt K (He.dflAt ("Book", some "__init__") 5 K) [], My.tupAt K (He.dflAt ("Book", some "__init__") 6 K) [], My.tupAt K (He.dflAt ("Book", some "__init__") 7 K) []]
def ex (K : PySem.W.Frag) : Bool := (exl K).all id
structure Txt (K : PySem.W.Frag) (mg : Str → Option Value) : Prop where
  ex : ∃ h : Heap, K.In h ∧ h.Ns mainGlobals mg ∧ He.SaysD fa fn K ∧ ex K = true
section
variable {K : PySem.W.Frag} {mg : Str → Option Value}
theorem Txt.g_wall (T : Txt K mg) : mg "_wall" = some (.ref (He.ga K "_wall")) := by
  obtain ⟨h, X, G, c, _⟩ := T.ex
  exact He.glo_ok X G (c.fact 0 rfl)
theorem Txt.g_do_deed (T : Txt K mg) : mg "do_deed" = some (.ref (He.ga K "do_deed")) := by
  obtain ⟨h, X, G, c, _⟩ := T.ex
  exact He.glo_ok X G (c.fact 1 rfl)
theorem Txt.g_is_integer_within (T : Txt K mg) : mg "is_integer_within" = some (.ref (He.ga K "is_integer_within")) := by
  obtain ⟨h, X, G, c, _⟩ := T.ex
  exact He.glo_ok X G (c.fact 2 rfl)
theorem Txt.g_is_truth (T : Txt K mg) : mg "is_truth" = some (.ref (He.ga K "is_truth")) := by
  obtain ⟨h, X, G, c, _⟩ := T.ex
  exact He.glo_ok X G (c.fact 3 rfl)
theorem Txt.g_is_word (T : Txt K mg) : mg "is_word" = some (.ref (He.ga K "is_word")) := by
  obtain ⟨h, X, G, c, _⟩ := T.ex
  exact He.glo_ok X G (c.fact 4 rfl)
theorem Txt.g_are_truths (T : Txt K mg) : mg "are_truths" = some (.ref (He.ga K "are_truths")) := by
  obtain ⟨h, X, G, c, _⟩ := T.ex
  exact He.glo_ok X G (c.fact 5 rfl)
theorem Txt.g_is_deed (T : Txt K mg) : mg "is_deed" = some (.ref (He.ga K "is_deed")) := by
  obtain ⟨h, X, G, c, _⟩ := T.ex
  exact He.glo_ok X G (c.fact 6 rfl)
theorem Txt.g_check_are_deeds (T : Txt K mg) : mg "check_are_deeds" = some (.ref (He.ga K "check_are_deeds")) := by
  obtain ⟨h, X, G, c, _⟩ := T.ex
  exact He.glo_ok X G (c.fact 7 rfl)
theorem Txt.g_check_playable (T : Txt K mg) : mg "check_playable" = some (.ref (He.ga K "check_playable")) := by
  obtain ⟨h, X, G, c, _⟩ := T.ex
  exact He.glo_ok X G (c.fact 8 rfl)
theorem Txt.g_played (T : Txt K mg) : mg "played" = some (.ref (He.ga K "played")) := by
  obtain ⟨h, X, G, c, _⟩ := T.ex
  exact He.glo_ok X G (c.fact 9 rfl)
theorem Txt.g_play (T : Txt K mg) : mg "play" = some (.ref (He.ga K "play")) := by
  obtain ⟨h, X, G, c, _⟩ := T.ex
  exact He.glo_ok X G (c.fact 10 rfl)
theorem Txt.g_faults (T : Txt K mg) : mg "faults" = some (.ref (He.ga K "faults")) := by
  obtain ⟨h, X, G, c, _⟩ := T.ex
  exact He.glo_ok X G (c.fact 11 rfl)
theorem Txt.g_boxes (T : Txt K mg) : mg "boxes" = some (.ref (He.ga K "boxes")) := by
  obtain ⟨h, X, G, c, _⟩ := T.ex
  exact He.glo_ok X G (c.fact 12 rfl)
theorem Txt.g_is_rule (T : Txt K mg) : mg "is_rule" = some (.ref (He.ga K "is_rule")) := by
  obtain ⟨h, X, G, c, _⟩ := T.ex
  exact He.glo_ok X G (c.fact 13 rfl)
theorem Txt.g_law_spring (T : Txt K mg) : mg "_law_spring" = some (.ref (He.ga K "_law_spring")) := by
  obtain ⟨h, X, G, c, _⟩ := T.ex
  exact He.glo_ok X G (c.fact 14 rfl)
theorem Txt.g_law_drop (T : Txt K mg) : mg "_law_drop" = some (.ref (He.ga K "_law_drop")) := by
  obtain ⟨h, X, G, c, _⟩ := T.ex
  exact He.glo_ok X G (c.fact 15 rfl)
theorem Txt.g_law_springs (T : Txt K mg) : mg "_law_springs" = some (.ref (He.ga K "_law_springs")) := by
  obtain ⟨h, X, G, c, _⟩ := T.ex
  exact He.glo_ok X G (c.fact 16 rfl)
theorem Txt.g_law_made (T : Txt K mg) : mg "_law_made" = some (.ref (He.ga K "_law_made")) := by
  obtain ⟨h, X, G, c, _⟩ := T.ex
  exact He.glo_ok X G (c.fact 17 rfl)
theorem Txt.g_law_is_whole (T : Txt K mg) : mg "_law_is_whole" = some (.ref (He.ga K "_law_is_whole")) := by
  obtain ⟨h, X, G, c, _⟩ := T.ex
  exact He.glo_ok X G (c.fact 18 rfl)
theorem Txt.g_law_is_report (T : Txt K mg) : mg "_law_is_report" = some (.ref (He.ga K "_law_is_report")) := by
  obtain ⟨h, X, G, c, _⟩ := T.ex
  exact He.glo_ok X G (c.fact 19 rfl)
theorem Txt.g_law_asked (T : Txt K mg) : mg "_law_asked" = some (.ref (He.ga K "_law_asked")) := by
  obtain ⟨h, X, G, c, _⟩ := T.ex
  exact He.glo_ok X G (c.fact 20 rfl)
theorem Txt.g_law_stands (T : Txt K mg) : mg "_law_stands" = some (.ref (He.ga K "_law_stands")) := by
  obtain ⟨h, X, G, c, _⟩ := T.ex
  exact He.glo_ok X G (c.fact 21 rfl)
theorem Txt.g_law_wrong (T : Txt K mg) : mg "_law_wrong" = some (.ref (He.ga K "_law_wrong")) := by
  obtain ⟨h, X, G, c, _⟩ := T.ex
  exact He.glo_ok X G (c.fact 22 rfl)
theorem Txt.g_law_act (T : Txt K mg) : mg "_law_act" = some (.ref (He.ga K "_law_act")) := by
  obtain ⟨h, X, G, c, _⟩ := T.ex
  exact He.glo_ok X G (c.fact 23 rfl)
theorem Txt.g_law_code (T : Txt K mg) : mg "_law_code" = some (.ref (He.ga K "_law_code")) := by
  obtain ⟨h, X, G, c, _⟩ := T.ex
  exact He.glo_ok X G (c.fact 24 rfl)
theorem Txt.g_law_due (T : Txt K mg) : mg "_law_due" = some (.ref (He.ga K "_law_due")) := by
  obtain ⟨h, X, G, c, _⟩ := T.ex
  exact He.glo_ok X G (c.fact 25 rfl)
theorem Txt.g_law (T : Txt K mg) : mg "law" = some (.ref (He.ga K "law")) := by
  obtain ⟨h, X, G, c, _⟩ := T.ex
  exact He.glo_ok X G (c.fact 26 rfl)
theorem Txt.g_Told (T : Txt K mg) : mg "Told" = some (.ref (He.ga K "Told")) := by
  obtain ⟨h, X, G, c, _⟩ := T.ex
  exact He.glo_ok X G (c.fact 27 rfl)
theorem Txt.g_Box (T : Txt K mg) : mg "Box" = some (.ref (He.ga K "Box")) := by
  obtain ⟨h, X, G, c, _⟩ := T.ex
  exact He.glo_ok X G (c.fact 28 rfl)
theorem Txt.g_Book (T : Txt K mg) : mg "Book" = some (.ref (He.ga K "Book")) := by
  obtain ⟨h, X, G, c, _⟩ := T.ex
  exact He.glo_ok X G (c.fact 29 rfl)
theorem Txt.g_WallError (T : Txt K mg) : mg "WallError" = some (.ref (He.ga K "WallError")) := by
  obtain ⟨h, X, G, c, _⟩ := T.ex
  exact He.glo_ok X G (c.fact 30 rfl)
theorem Txt.g_NoDays (T : Txt K mg) : mg "NoDays" = some (.ref (He.ga K "NoDays")) := by
  obtain ⟨h, X, G, c, _⟩ := T.ex
  exact He.glo_ok X G (c.fact 31 rfl)
theorem Txt.g_NoRule (T : Txt K mg) : mg "NoRule" = some (.ref (He.ga K "NoRule")) := by
  obtain ⟨h, X, G, c, _⟩ := T.ex
  exact He.glo_ok X G (c.fact 32 rfl)
theorem Txt.g_NoMoment (T : Txt K mg) : mg "NoMoment" = some (.ref (He.ga K "NoMoment")) := by
  obtain ⟨h, X, G, c, _⟩ := T.ex
  exact He.glo_ok X G (c.fact 33 rfl)
theorem Txt.g_NoDeed (T : Txt K mg) : mg "NoDeed" = some (.ref (He.ga K "NoDeed")) := by
  obtain ⟨h, X, G, c, _⟩ := T.ex
  exact He.glo_ok X G (c.fact 34 rfl)
theorem Txt.g_NoParcel (T : Txt K mg) : mg "NoParcel" = some (.ref (He.ga K "NoParcel")) := by
  obtain ⟨h, X, G, c, _⟩ := T.ex
  exact He.glo_ok X G (c.fact 35 rfl)
theorem Txt.g_MOST_PARCEL (T : Txt K mg) : ∃ t, mg "MOST_PARCEL" = some (.int 1000000000 t) := by
  obtain ⟨h, X, G, c, _⟩ := T.ex
  exact He.int_ok X G (c.fact 36 rfl)
theorem Txt.g_SINGLE_WORDS (T : Txt K mg) : mg "SINGLE_WORDS" = some (.ref (He.ga K "SINGLE_WORDS")) := by
  obtain ⟨h, X, G, c, _⟩ := T.ex
  exact He.glo_ok X G (c.fact 37 rfl)
theorem Txt.g_ACTIONS (T : Txt K mg) : mg "ACTIONS" = some (.ref (He.ga K "ACTIONS")) := by
  obtain ⟨h, X, G, c, _⟩ := T.ex
  exact He.glo_ok X G (c.fact 38 rfl)
theorem Txt.g_MOMENTS (T : Txt K mg) : mg "MOMENTS" = some (.ref (He.ga K "MOMENTS")) := by
  obtain ⟨h, X, G, c, _⟩ := T.ex
  exact He.glo_ok X G (c.fact 39 rfl)
theorem Txt.g_MOST_ACTIONS (T : Txt K mg) : ∃ t, mg "MOST_ACTIONS" = some (.int 6 t) := by
  obtain ⟨h, X, G, c, _⟩ := T.ex
  exact He.int_ok X G (c.fact 40 rfl)
theorem Txt.g_MOST_DAYS (T : Txt K mg) : ∃ t, mg "MOST_DAYS" = some (.int 30 t) := by
  obtain ⟨h, X, G, c, _⟩ := T.ex
  exact He.int_ok X G (c.fact 41 rfl)
theorem Txt.len (T : Txt K mg) : mg "len" = none := by
  obtain ⟨h, X, G, c, _⟩ := T.ex
  exact He.free_ok X G (c.fact 42 rfl)
theorem Txt.abs (T : Txt K mg) : mg "abs" = none := by
  obtain ⟨h, X, G, c, _⟩ := T.ex
  exact He.free_ok X G (c.fact 43 rfl)
theorem Txt.max (T : Txt K mg) : mg "max" = none := by
  obtain ⟨h, X, G, c, _⟩ := T.ex
  exact He.free_ok X G (c.fact 44 rfl)
theorem Txt.min (T : Txt K mg) : mg "min" = none := by
  obtain ⟨h, X, G, c, _⟩ := T.ex
  exact He.free_ok X G (c.fact 45 rfl)
theorem Txt.isinstance (T : Txt K mg) : mg "isinstance" = none := by
  obtain ⟨h, X, G, c, _⟩ := T.ex
  exact He.free_ok X G (c.fact 46 rfl)
theorem Txt.all (T : Txt K mg) : mg "all" = none := by
  obtain ⟨h, X, G, c, _⟩ := T.ex
  exact He.free_ok X G (c.fact 47 rfl)
theorem Txt.any (T : Txt K mg) : mg "any" = none := by
  obtain ⟨h, X, G, c, _⟩ := T.ex
  exact He.free_ok X G (c.fact 48 rfl)
theorem Txt.sorted (T : Txt K mg) : mg "sorted" = none := by
  obtain ⟨h, X, G, c, _⟩ := T.ex
  exact He.free_ok X G (c.fact 49 rfl)
theorem Txt.zip (T : Txt K mg) : mg "zip" = none := by
  obtain ⟨h, X, G, c, _⟩ := T.ex
  exact He.free_ok X G (c.fact 50 rfl)
theorem Txt.enumerate (T : Txt K mg) : mg "enumerate" = none := by
  obtain ⟨h, X, G, c, _⟩ := T.ex
  exact He.free_ok X G (c.fact 51 rfl)
theorem Txt.super (T : Txt K mg) : mg "super" = none := by
  obtain ⟨h, X, G, c, _⟩ := T.ex
  exact He.free_ok X G (c.fact 52 rfl)
theorem Txt.ValueError (T : Txt K mg) : mg "ValueError" = none := by
  obtain ⟨h, X, G, c, _⟩ := T.ex
  exact He.free_ok X G (c.fact 53 rfl)
theorem Txt.int (T : Txt K mg) : mg "int" = none := by
  obtain ⟨h, X, G, c, _⟩ := T.ex
  exact He.free_ok X G (c.fact 54 rfl)
theorem Txt.str (T : Txt K mg) : mg "str" = none := by
  obtain ⟨h, X, G, c, _⟩ := T.ex
  exact He.free_ok X G (c.fact 55 rfl)
theorem Txt.bool (T : Txt K mg) : mg "bool" = none := by
  obtain ⟨h, X, G, c, _⟩ := T.ex
  exact He.free_ok X G (c.fact 56 rfl)
theorem Txt.list (T : Txt K mg) : mg "list" = none := by
  obtain ⟨h, X, G, c, _⟩ := T.ex
  exact He.free_ok X G (c.fact 57 rfl)
theorem Txt.tuple (T : Txt K mg) : mg "tuple" = none := by
  obtain ⟨h, X, G, c, _⟩ := T.ex
  exact He.free_ok X G (c.fact 58 rfl)
theorem Txt.range (T : Txt K mg) : mg "range" = none := by
  obtain ⟨h, X, G, c, _⟩ := T.ex
  exact He.free_ok X G (c.fact 59 rfl)
theorem Txt.cl_Told (T : Txt K mg) : Cls K (He.ga K "Told") := by
  obtain ⟨h, X, G, c, _⟩ := T.ex
  exact He.cls_ok (c.fact 60 rfl)
theorem Txt.no_Told_letters (T : Txt K mg) : NoAttr K (He.ga K "Told") "letters" := by
  obtain ⟨h, X, G, c, _⟩ := T.ex
  exact He.noat_ok (c.fact 61 rfl)
theorem Txt.no_Told_opened (T : Txt K mg) : NoAttr K (He.ga K "Told") "opened" := by
  obtain ⟨h, X, G, c, _⟩ := T.ex
  exact He.noat_ok (c.fact 62 rfl)
theorem Txt.no_Told_got (T : Txt K mg) : NoAttr K (He.ga K "Told") "got" := by
  obtain ⟨h, X, G, c, _⟩ := T.ex
  exact He.noat_ok (c.fact 63 rfl)
theorem Txt.no_Told_lays (T : Txt K mg) : NoAttr K (He.ga K "Told") "lays" := by
  obtain ⟨h, X, G, c, _⟩ := T.ex
  exact He.noat_ok (c.fact 64 rfl)
theorem Txt.no_Told_wrongs (T : Txt K mg) : NoAttr K (He.ga K "Told") "wrongs" := by
  obtain ⟨h, X, G, c, _⟩ := T.ex
  exact He.noat_ok (c.fact 65 rfl)
theorem Txt.no_Told_moments (T : Txt K mg) : NoAttr K (He.ga K "Told") "moments" := by
  obtain ⟨h, X, G, c, _⟩ := T.ex
  exact He.noat_ok (c.fact 66 rfl)
theorem Txt.m_Told_report (T : Txt K mg) : Meth K (He.ga K "Told") "report" (He.ma K (He.ga K "Told") "report") := by
  obtain ⟨h, X, G, c, _⟩ := T.ex
  exact He.meth_ok (c.fact 67 rfl)
theorem Txt.mk_Told (T : Txt K mg) : Mk K (He.ga K "Told") (He.ma K (He.ga K "Told") "__init__") := by
  obtain ⟨h, X, G, c, _⟩ := T.ex
  exact He.mkr_ok (c.fact 68 rfl)
theorem Txt.cl_Box (T : Txt K mg) : Cls K (He.ga K "Box") := by
  obtain ⟨h, X, G, c, _⟩ := T.ex
  exact He.cls_ok (c.fact 69 rfl)
theorem Txt.no_Box_ajar (T : Txt K mg) : NoAttr K (He.ga K "Box") "ajar" := by
  obtain ⟨h, X, G, c, _⟩ := T.ex
  exact He.noat_ok (c.fact 70 rfl)
theorem Txt.no_Box_inside (T : Txt K mg) : NoAttr K (He.ga K "Box") "inside" := by
  obtain ⟨h, X, G, c, _⟩ := T.ex
  exact He.noat_ok (c.fact 71 rfl)
theorem Txt.no_Box_taken_for (T : Txt K mg) : NoAttr K (He.ga K "Box") "taken_for" := by
  obtain ⟨h, X, G, c, _⟩ := T.ex
  exact He.noat_ok (c.fact 72 rfl)
theorem Txt.no_Box_valid (T : Txt K mg) : NoAttr K (He.ga K "Box") "valid" := by
  obtain ⟨h, X, G, c, _⟩ := T.ex
  exact He.noat_ok (c.fact 73 rfl)
theorem Txt.no_Box_age (T : Txt K mg) : NoAttr K (He.ga K "Box") "age" := by
  obtain ⟨h, X, G, c, _⟩ := T.ex
  exact He.noat_ok (c.fact 74 rfl)
theorem Txt.no_Box_last (T : Txt K mg) : NoAttr K (He.ga K "Box") "last" := by
  obtain ⟨h, X, G, c, _⟩ := T.ex
  exact He.noat_ok (c.fact 75 rfl)
theorem Txt.no_Box_sent (T : Txt K mg) : NoAttr K (He.ga K "Box") "sent" := by
  obtain ⟨h, X, G, c, _⟩ := T.ex
  exact He.noat_ok (c.fact 76 rfl)
theorem Txt.no_Box_served (T : Txt K mg) : NoAttr K (He.ga K "Box") "served" := by
  obtain ⟨h, X, G, c, _⟩ := T.ex
  exact He.noat_ok (c.fact 77 rfl)
theorem Txt.m_Box_copied (T : Txt K mg) : Meth K (He.ga K "Box") "copied" (He.ma K (He.ga K "Box") "copied") := by
  obtain ⟨h, X, G, c, _⟩ := T.ex
  exact He.meth_ok (c.fact 78 rfl)
theorem Txt.m_Box_stands (T : Txt K mg) : Meth K (He.ga K "Box") "stands" (He.ma K (He.ga K "Box") "stands") := by
  obtain ⟨h, X, G, c, _⟩ := T.ex
  exact He.meth_ok (c.fact 79 rfl)
theorem Txt.m_Box_bring (T : Txt K mg) : Meth K (He.ga K "Box") "bring" (He.ma K (He.ga K "Box") "bring") := by
  obtain ⟨h, X, G, c, _⟩ := T.ex
  exact He.meth_ok (c.fact 80 rfl)
theorem Txt.m_Box_code (T : Txt K mg) : Meth K (He.ga K "Box") "code" (He.ma K (He.ga K "Box") "code") := by
  obtain ⟨h, X, G, c, _⟩ := T.ex
  exact He.meth_ok (c.fact 81 rfl)
theorem Txt.m_Box_pass_by (T : Txt K mg) : Meth K (He.ga K "Box") "pass_by" (He.ma K (He.ga K "Box") "pass_by") := by
  obtain ⟨h, X, G, c, _⟩ := T.ex
  exact He.meth_ok (c.fact 82 rfl)
theorem Txt.m_Box_day (T : Txt K mg) : Meth K (He.ga K "Box") "day" (He.ma K (He.ga K "Box") "day") := by
  obtain ⟨h, X, G, c, _⟩ := T.ex
  exact He.meth_ok (c.fact 83 rfl)
theorem Txt.m_Box_power (T : Txt K mg) : Meth K (He.ga K "Box") "power" (He.ma K (He.ga K "Box") "power") := by
  obtain ⟨h, X, G, c, _⟩ := T.ex
  exact He.meth_ok (c.fact 84 rfl)
theorem Txt.m_Box_let_take (T : Txt K mg) : Meth K (He.ga K "Box") "_let_take" (He.ma K (He.ga K "Box") "_let_take") := by
  obtain ⟨h, X, G, c, _⟩ := T.ex
  exact He.meth_ok (c.fact 85 rfl)
theorem Txt.m_Box_go_away (T : Txt K mg) : Meth K (He.ga K "Box") "_go_away" (He.ma K (He.ga K "Box") "_go_away") := by
  obtain ⟨h, X, G, c, _⟩ := T.ex
  exact He.meth_ok (c.fact 86 rfl)
theorem Txt.m_Box_carry_out (T : Txt K mg) : Meth K (He.ga K "Box") "_carry_out" (He.ma K (He.ga K "Box") "_carry_out") := by
  obtain ⟨h, X, G, c, _⟩ := T.ex
  exact He.meth_ok (c.fact 87 rfl)
theorem Txt.m_Box_act (T : Txt K mg) : Meth K (He.ga K "Box") "_act" (He.ma K (He.ga K "Box") "_act") := by
  obtain ⟨h, X, G, c, _⟩ := T.ex
  exact He.meth_ok (c.fact 88 rfl)
theorem Txt.m_Box_send_code (T : Txt K mg) : Meth K (He.ga K "Box") "_send_code" (He.ma K (He.ga K "Box") "_send_code") := by
  obtain ⟨h, X, G, c, _⟩ := T.ex
  exact He.meth_ok (c.fact 89 rfl)
theorem Txt.mk_Box (T : Txt K mg) : Mk K (He.ga K "Box") (He.ma K (He.ga K "Box") "__init__") := by
  obtain ⟨h, X, G, c, _⟩ := T.ex
  exact He.mkr_ok (c.fact 90 rfl)
theorem Txt.cl_Book (T : Txt K mg) : Cls K (He.ga K "Book") := by
  obtain ⟨h, X, G, c, _⟩ := T.ex
  exact He.cls_ok (c.fact 91 rfl)
theorem Txt.no_Book__days (T : Txt K mg) : NoAttr K (He.ga K "Book") "_days" := by
  obtain ⟨h, X, G, c, _⟩ := T.ex
  exact He.noat_ok (c.fact 92 rfl)
theorem Txt.no_Book__rules (T : Txt K mg) : NoAttr K (He.ga K "Book") "_rules" := by
  obtain ⟨h, X, G, c, _⟩ := T.ex
  exact He.noat_ok (c.fact 93 rfl)
theorem Txt.m_Book_eq (T : Txt K mg) : Meth K (He.ga K "Book") "__eq__" (He.ma K (He.ga K "Book") "__eq__") := by
  obtain ⟨h, X, G, c, _⟩ := T.ex
  exact He.meth_ok (c.fact 94 rfl)
theorem Txt.m_Book_days (T : Txt K mg) : Meth K (He.ga K "Book") "days" (He.ma K (He.ga K "Book") "days") := by
  obtain ⟨h, X, G, c, _⟩ := T.ex
  exact He.meth_ok (c.fact 95 rfl)
theorem Txt.m_Book_rule (T : Txt K mg) : Meth K (He.ga K "Book") "rule" (He.ma K (He.ga K "Book") "rule") := by
  obtain ⟨h, X, G, c, _⟩ := T.ex
  exact He.meth_ok (c.fact 96 rfl)
theorem Txt.m_Book_rules (T : Txt K mg) : Meth K (He.ga K "Book") "rules" (He.ma K (He.ga K "Book") "rules") := by
  obtain ⟨h, X, G, c, _⟩ := T.ex
  exact He.meth_ok (c.fact 97 rfl)
theorem Txt.m_Book_with_rule (T : Txt K mg) : Meth K (He.ga K "Book") "with_rule" (He.ma K (He.ga K "Book") "with_rule") := by
  obtain ⟨h, X, G, c, _⟩ := T.ex
  exact He.meth_ok (c.fact 98 rfl)
theorem Txt.m_Book_with_days (T : Txt K mg) : Meth K (He.ga K "Book") "with_days" (He.ma K (He.ga K "Book") "with_days") := by
  obtain ⟨h, X, G, c, _⟩ := T.ex
  exact He.meth_ok (c.fact 99 rfl)
theorem Txt.m_Book_taking (T : Txt K mg) : Meth K (He.ga K "Book") "taking" (He.ma K (He.ga K "Book") "taking") := by
  obtain ⟨h, X, G, c, _⟩ := T.ex
  exact He.meth_ok (c.fact 100 rfl)
theorem Txt.mk_Book (T : Txt K mg) : Mk K (He.ga K "Book") (He.ma K (He.ga K "Book") "__init__") := by
  obtain ⟨h, X, G, c, _⟩ := T.ex
  exact He.mkr_ok (c.fact 101 rfl)
theorem Txt.tup_SINGLE_WORDS (T : Txt K mg) : ∀ H, SqT K H (He.ga K "SINGLE_WORDS") [.str "pass", .str "day", .str "power"] := by
  obtain ⟨h, X, G, c, e⟩ := T.ex
  exact fun H => My.tupAt_ok (My.all_ix e 0 rfl) H
theorem Txt.ty_SINGLE_WORDS (T : Txt K mg) : ∀ H, tyV K "tuple" (.ref (He.ga K "SINGLE_WORDS")) H := by
  obtain ⟨h, X, G, c, e⟩ := T.ex
  exact fun H => My.tupAt_ty (My.all_ix e 0 rfl) H
theorem Txt.tup_ACTIONS (T : Txt K mg) : ∀ H, SqT K H (He.ga K "ACTIONS") [.str "free", .str "full", .str "off", .str "code", .str "void", .str "look", .str "lock"] := by
  obtain ⟨h, X, G, c, e⟩ := T.ex
  exact fun H => My.tupAt_ok (My.all_ix e 1 rfl) H
theorem Txt.ty_ACTIONS (T : Txt K mg) : ∀ H, tyV K "tuple" (.ref (He.ga K "ACTIONS")) H := by
  obtain ⟨h, X, G, c, e⟩ := T.ex
  exact fun H => My.tupAt_ty (My.all_ix e 1 rfl) H
theorem Txt.tup_MOMENTS (T : Txt K mg) : ∀ H, SqT K H (He.ga K "MOMENTS") [.str "given", .str "laid", .str "left", .str "opened", .str "taken", .str "gone", .str "late", .str "power"] := by
  obtain ⟨h, X, G, c, e⟩ := T.ex
  exact fun H => My.tupAt_ok (My.all_ix e 2 rfl) H
theorem Txt.ty_MOMENTS (T : Txt K mg) : ∀ H, tyV K "tuple" (.ref (He.ga K "MOMENTS")) H := by
  obtain ⟨h, X, G, c, e⟩ := T.ex
  exact fun H => My.tupAt_ty (My.all_ix e 2 rfl) H
theorem Txt.dfl_Book_init_0 (T : Txt K mg) : ∀ H, SqT K H (He.dflAt ("Book", some "__init__") 0 K) [] := by
  obtain ⟨h, X, G, c, e⟩ := T.ex
  exact fun H => My.tupAt_ok (My.all_ix e 3 rfl) H
theorem Txt.dfl_Book_init_1 (T : Txt K mg) : ∀ H, SqT K H (He.dflAt ("Book", some "__init__") 1 K) [] := by
  obtain ⟨h, X, G, c, e⟩ := T.ex
  exact fun H => My.tupAt_ok (My.all_ix e 4 rfl) H
theorem Txt.dfl_Book_init_2 (T : Txt K mg) : ∀ H, SqT K H (He.dflAt ("Book", some "__init__") 2 K) [] := by
  obtain ⟨h, X, G, c, e⟩ := T.ex
  exact fun H => My.tupAt_ok (My.all_ix e 5 rfl) H
theorem Txt.dfl_Book_init_3 (T : Txt K mg) : ∀ H, SqT K H (He.dflAt ("Book", some "__init__") 3 K) [] := by
  obtain ⟨h, X, G, c, e⟩ := T.ex
  exact fun H => My.tupAt_ok (My.all_ix e 6 rfl) H
theorem Txt.dfl_Book_init_4 (T : Txt K mg) : ∀ H, SqT K H (He.dflAt ("Book", some "__init__") 4 K) [] := by
  obtain ⟨h, X, G, c, e⟩ := T.ex
  exact fun H => My.tupAt_ok (My.all_ix e 7 rfl) H
theorem Txt.dfl_Book_init_5 (T : Txt K mg) : ∀ H, SqT K H (He.dflAt ("Book", some "__init__") 5 K) [] := by
  obtain ⟨h, X, G, c, e⟩ := T.ex
  exact fun H => My.tupAt_ok (My.all_ix e 8 rfl) H
theorem Txt.dfl_Book_init_6 (T : Txt K mg) : ∀ H, SqT K H (He.dflAt ("Book", some "__init__") 6 K) [] := by
  obtain ⟨h, X, G, c, e⟩ := T.ex
  exact fun H => My.tupAt_ok (My.all_ix e 9 rfl) H
theorem Txt.dfl_Book_init_7 (T : Txt K mg) : ∀ H, SqT K H (He.dflAt ("Book", some "__init__") 7 K) [] := by
  obtain ⟨h, X, G, c, e⟩ := T.ex
  exact fun H => My.tupAt_ok (My.all_ix e 10 rfl) H
theorem Txt.f_wall (T : Txt K mg) : ∃ fd, FunD K d_wall.name d_wall.qual d_wall.params d_wall.body d_wall.scope (d_wall.dvs K) (d_wall.kws K) (He.fAd K d_wall.at_) fd := by
  obtain ⟨h, X, G, c, e⟩ := T.ex
  exact c.def_ 0 rfl
theorem Txt.f_Told_init (T : Txt K mg) : ∃ fd, FunD K d_Told_init.name d_Told_init.qual d_Told_init.params d_Told_init.body d_Told_init.scope (d_Told_init.dvs K) (d_Told_init.kws K) (He.fAd K d_Told_init.at_) fd := by
  obtain ⟨h, X, G, c, e⟩ := T.ex
  exact c.def_ 1 rfl
theorem Txt.f_Told_report (T : Txt K mg) : ∃ fd, FunD K d_Told_report.name d_Told_report.qual d_Told_report.params d_Told_report.body d_Told_report.scope (d_Told_report.dvs K) (d_Told_report.kws K) (He.fAd K d_Told_report.at_) fd := by
  obtain ⟨h, X, G, c, e⟩ := T.ex
  exact c.def_ 2 rfl
theorem Txt.f_Box_init (T : Txt K mg) : ∃ fd, FunD K d_Box_init.name d_Box_init.qual d_Box_init.params d_Box_init.body d_Box_init.scope (d_Box_init.dvs K) (d_Box_init.kws K) (He.fAd K d_Box_init.at_) fd := by
  obtain ⟨h, X, G, c, e⟩ := T.ex
  exact c.def_ 3 rfl
theorem Txt.f_Box_copied (T : Txt K mg) : ∃ fd, FunD K d_Box_copied.name d_Box_copied.qual d_Box_copied.params d_Box_copied.body d_Box_copied.scope (d_Box_copied.dvs K) (d_Box_copied.kws K) (He.fAd K d_Box_copied.at_) fd := by
  obtain ⟨h, X, G, c, e⟩ := T.ex
  exact c.def_ 4 rfl
theorem Txt.f_Box_stands (T : Txt K mg) : ∃ fd, FunD K d_Box_stands.name d_Box_stands.qual d_Box_stands.params d_Box_stands.body d_Box_stands.scope (d_Box_stands.dvs K) (d_Box_stands.kws K) (He.fAd K d_Box_stands.at_) fd := by
  obtain ⟨h, X, G, c, e⟩ := T.ex
  exact c.def_ 5 rfl
theorem Txt.f_Box_bring (T : Txt K mg) : ∃ fd, FunD K d_Box_bring.name d_Box_bring.qual d_Box_bring.params d_Box_bring.body d_Box_bring.scope (d_Box_bring.dvs K) (d_Box_bring.kws K) (He.fAd K d_Box_bring.at_) fd := by
  obtain ⟨h, X, G, c, e⟩ := T.ex
  exact c.def_ 6 rfl
theorem Txt.f_Box_code (T : Txt K mg) : ∃ fd, FunD K d_Box_code.name d_Box_code.qual d_Box_code.params d_Box_code.body d_Box_code.scope (d_Box_code.dvs K) (d_Box_code.kws K) (He.fAd K d_Box_code.at_) fd := by
  obtain ⟨h, X, G, c, e⟩ := T.ex
  exact c.def_ 7 rfl
theorem Txt.f_Box_pass_by (T : Txt K mg) : ∃ fd, FunD K d_Box_pass_by.name d_Box_pass_by.qual d_Box_pass_by.params d_Box_pass_by.body d_Box_pass_by.scope (d_Box_pass_by.dvs K) (d_Box_pass_by.kws K) (He.fAd K d_Box_pass_by.at_) fd := by
  obtain ⟨h, X, G, c, e⟩ := T.ex
  exact c.def_ 8 rfl
theorem Txt.f_Box_day (T : Txt K mg) : ∃ fd, FunD K d_Box_day.name d_Box_day.qual d_Box_day.params d_Box_day.body d_Box_day.scope (d_Box_day.dvs K) (d_Box_day.kws K) (He.fAd K d_Box_day.at_) fd := by
  obtain ⟨h, X, G, c, e⟩ := T.ex
  exact c.def_ 9 rfl
theorem Txt.f_Box_power (T : Txt K mg) : ∃ fd, FunD K d_Box_power.name d_Box_power.qual d_Box_power.params d_Box_power.body d_Box_power.scope (d_Box_power.dvs K) (d_Box_power.kws K) (He.fAd K d_Box_power.at_) fd := by
  obtain ⟨h, X, G, c, e⟩ := T.ex
  exact c.def_ 10 rfl
theorem Txt.f_Box_let_take (T : Txt K mg) : ∃ fd, FunD K d_Box_let_take.name d_Box_let_take.qual d_Box_let_take.params d_Box_let_take.body d_Box_let_take.scope (d_Box_let_take.dvs K) (d_Box_let_take.kws K) (He.fAd K d_Box_let_take.at_) fd := by
  obtain ⟨h, X, G, c, e⟩ := T.ex
  exact c.def_ 11 rfl
theorem Txt.f_Box_go_away (T : Txt K mg) : ∃ fd, FunD K d_Box_go_away.name d_Box_go_away.qual d_Box_go_away.params d_Box_go_away.body d_Box_go_away.scope (d_Box_go_away.dvs K) (d_Box_go_away.kws K) (He.fAd K d_Box_go_away.at_) fd := by
  obtain ⟨h, X, G, c, e⟩ := T.ex
  exact c.def_ 12 rfl
theorem Txt.f_Box_carry_out (T : Txt K mg) : ∃ fd, FunD K d_Box_carry_out.name d_Box_carry_out.qual d_Box_carry_out.params d_Box_carry_out.body d_Box_carry_out.scope (d_Box_carry_out.dvs K) (d_Box_carry_out.kws K) (He.fAd K d_Box_carry_out.at_) fd := by
  obtain ⟨h, X, G, c, e⟩ := T.ex
  exact c.def_ 13 rfl
theorem Txt.f_Box_act (T : Txt K mg) : ∃ fd, FunD K d_Box_act.name d_Box_act.qual d_Box_act.params d_Box_act.body d_Box_act.scope (d_Box_act.dvs K) (d_Box_act.kws K) (He.fAd K d_Box_act.at_) fd := by
  obtain ⟨h, X, G, c, e⟩ := T.ex
  exact c.def_ 14 rfl
theorem Txt.f_Box_send_code (T : Txt K mg) : ∃ fd, FunD K d_Box_send_code.name d_Box_send_code.qual d_Box_send_code.params d_Box_send_code.body d_Box_send_code.scope (d_Box_send_code.dvs K) (d_Box_send_code.kws K) (He.fAd K d_Box_send_code.at_) fd := by
  obtain ⟨h, X, G, c, e⟩ := T.ex
  exact c.def_ 15 rfl
theorem Txt.f_do_deed (T : Txt K mg) : ∃ fd, FunD K d_do_deed.name d_do_deed.qual d_do_deed.params d_do_deed.body d_do_deed.scope (d_do_deed.dvs K) (d_do_deed.kws K) (He.fAd K d_do_deed.at_) fd := by
  obtain ⟨h, X, G, c, e⟩ := T.ex
  exact c.def_ 16 rfl
theorem Txt.f_is_integer_within (T : Txt K mg) : ∃ fd, FunD K d_is_integer_within.name d_is_integer_within.qual d_is_integer_within.params d_is_integer_within.body d_is_integer_within.scope (d_is_integer_within.dvs K) (d_is_integer_within.kws K) (He.fAd K d_is_integer_within.at_) fd := by
  obtain ⟨h, X, G, c, e⟩ := T.ex
  exact c.def_ 17 rfl
theorem Txt.f_is_truth (T : Txt K mg) : ∃ fd, FunD K d_is_truth.name d_is_truth.qual d_is_truth.params d_is_truth.body d_is_truth.scope (d_is_truth.dvs K) (d_is_truth.kws K) (He.fAd K d_is_truth.at_) fd := by
  obtain ⟨h, X, G, c, e⟩ := T.ex
  exact c.def_ 18 rfl
theorem Txt.f_is_word (T : Txt K mg) : ∃ fd, FunD K d_is_word.name d_is_word.qual d_is_word.params d_is_word.body d_is_word.scope (d_is_word.dvs K) (d_is_word.kws K) (He.fAd K d_is_word.at_) fd := by
  obtain ⟨h, X, G, c, e⟩ := T.ex
  exact c.def_ 19 rfl
theorem Txt.f_are_truths (T : Txt K mg) : ∃ fd, FunD K d_are_truths.name d_are_truths.qual d_are_truths.params d_are_truths.body d_are_truths.scope (d_are_truths.dvs K) (d_are_truths.kws K) (He.fAd K d_are_truths.at_) fd := by
  obtain ⟨h, X, G, c, e⟩ := T.ex
  exact c.def_ 20 rfl
theorem Txt.f_is_deed (T : Txt K mg) : ∃ fd, FunD K d_is_deed.name d_is_deed.qual d_is_deed.params d_is_deed.body d_is_deed.scope (d_is_deed.dvs K) (d_is_deed.kws K) (He.fAd K d_is_deed.at_) fd := by
  obtain ⟨h, X, G, c, e⟩ := T.ex
  exact c.def_ 21 rfl
theorem Txt.f_check_are_deeds (T : Txt K mg) : ∃ fd, FunD K d_check_are_deeds.name d_check_are_deeds.qual d_check_are_deeds.params d_check_are_deeds.body d_check_are_deeds.scope (d_check_are_deeds.dvs K) (d_check_are_deeds.kws K) (He.fAd K d_check_are_deeds.at_) fd := by
  obtain ⟨h, X, G, c, e⟩ := T.ex
  exact c.def_ 22 rfl
theorem Txt.f_check_playable (T : Txt K mg) : ∃ fd, FunD K d_check_playable.name d_check_playable.qual d_check_playable.params d_check_playable.body d_check_playable.scope (d_check_playable.dvs K) (d_check_playable.kws K) (He.fAd K d_check_playable.at_) fd := by
  obtain ⟨h, X, G, c, e⟩ := T.ex
  exact c.def_ 23 rfl
theorem Txt.f_played (T : Txt K mg) : ∃ fd, FunD K d_played.name d_played.qual d_played.params d_played.body d_played.scope (d_played.dvs K) (d_played.kws K) (He.fAd K d_played.at_) fd := by
  obtain ⟨h, X, G, c, e⟩ := T.ex
  exact c.def_ 24 rfl
theorem Txt.f_play (T : Txt K mg) : ∃ fd, FunD K d_play.name d_play.qual d_play.params d_play.body d_play.scope (d_play.dvs K) (d_play.kws K) (He.fAd K d_play.at_) fd := by
  obtain ⟨h, X, G, c, e⟩ := T.ex
  exact c.def_ 25 rfl
theorem Txt.f_faults (T : Txt K mg) : ∃ fd, FunD K d_faults.name d_faults.qual d_faults.params d_faults.body d_faults.scope (d_faults.dvs K) (d_faults.kws K) (He.fAd K d_faults.at_) fd := by
  obtain ⟨h, X, G, c, e⟩ := T.ex
  exact c.def_ 26 rfl
theorem Txt.f_boxes (T : Txt K mg) : ∃ fd, FunD K d_boxes.name d_boxes.qual d_boxes.params d_boxes.body d_boxes.scope (d_boxes.dvs K) (d_boxes.kws K) (He.fAd K d_boxes.at_) fd := by
  obtain ⟨h, X, G, c, e⟩ := T.ex
  exact c.def_ 27 rfl
theorem Txt.f_is_rule (T : Txt K mg) : ∃ fd, FunD K d_is_rule.name d_is_rule.qual d_is_rule.params d_is_rule.body d_is_rule.scope (d_is_rule.dvs K) (d_is_rule.kws K) (He.fAd K d_is_rule.at_) fd := by
  obtain ⟨h, X, G, c, e⟩ := T.ex
  exact c.def_ 28 rfl
theorem Txt.f_Book_init (T : Txt K mg) : ∃ fd, FunD K d_Book_init.name d_Book_init.qual d_Book_init.params d_Book_init.body d_Book_init.scope (d_Book_init.dvs K) (d_Book_init.kws K) (He.fAd K d_Book_init.at_) fd := by
  obtain ⟨h, X, G, c, e⟩ := T.ex
  exact c.def_ 29 rfl
theorem Txt.f_Book_eq (T : Txt K mg) : ∃ fd, FunD K d_Book_eq.name d_Book_eq.qual d_Book_eq.params d_Book_eq.body d_Book_eq.scope (d_Book_eq.dvs K) (d_Book_eq.kws K) (He.fAd K d_Book_eq.at_) fd := by
  obtain ⟨h, X, G, c, e⟩ := T.ex
  exact c.def_ 30 rfl
theorem Txt.f_Book_days (T : Txt K mg) : ∃ fd, FunD K d_Book_days.name d_Book_days.qual d_Book_days.params d_Book_days.body d_Book_days.scope (d_Book_days.dvs K) (d_Book_days.kws K) (He.fAd K d_Book_days.at_) fd := by
  obtain ⟨h, X, G, c, e⟩ := T.ex
  exact c.def_ 31 rfl
theorem Txt.f_Book_rule (T : Txt K mg) : ∃ fd, FunD K d_Book_rule.name d_Book_rule.qual d_Book_rule.params d_Book_rule.body d_Book_rule.scope (d_Book_rule.dvs K) (d_Book_rule.kws K) (He.fAd K d_Book_rule.at_) fd := by
  obtain ⟨h, X, G, c, e⟩ := T.ex
  exact c.def_ 32 rfl
theorem Txt.f_Book_rules (T : Txt K mg) : ∃ fd, FunD K d_Book_rules.name d_Book_rules.qual d_Book_rules.params d_Book_rules.body d_Book_rules.scope (d_Book_rules.dvs K) (d_Book_rules.kws K) (He.fAd K d_Book_rules.at_) fd := by
  obtain ⟨h, X, G, c, e⟩ := T.ex
  exact c.def_ 33 rfl
theorem Txt.f_Book_with_rule (T : Txt K mg) : ∃ fd, FunD K d_Book_with_rule.name d_Book_with_rule.qual d_Book_with_rule.params d_Book_with_rule.body d_Book_with_rule.scope (d_Book_with_rule.dvs K) (d_Book_with_rule.kws K) (He.fAd K d_Book_with_rule.at_) fd := by
  obtain ⟨h, X, G, c, e⟩ := T.ex
  exact c.def_ 34 rfl
theorem Txt.f_Book_with_days (T : Txt K mg) : ∃ fd, FunD K d_Book_with_days.name d_Book_with_days.qual d_Book_with_days.params d_Book_with_days.body d_Book_with_days.scope (d_Book_with_days.dvs K) (d_Book_with_days.kws K) (He.fAd K d_Book_with_days.at_) fd := by
  obtain ⟨h, X, G, c, e⟩ := T.ex
  exact c.def_ 35 rfl
theorem Txt.f_Book_taking (T : Txt K mg) : ∃ fd, FunD K d_Book_taking.name d_Book_taking.qual d_Book_taking.params d_Book_taking.body d_Book_taking.scope (d_Book_taking.dvs K) (d_Book_taking.kws K) (He.fAd K d_Book_taking.at_) fd := by
  obtain ⟨h, X, G, c, e⟩ := T.ex
  exact c.def_ 36 rfl
theorem Txt.f_law_spring (T : Txt K mg) : ∃ fd, FunD K d_law_spring.name d_law_spring.qual d_law_spring.params d_law_spring.body d_law_spring.scope (d_law_spring.dvs K) (d_law_spring.kws K) (He.fAd K d_law_spring.at_) fd := by
  obtain ⟨h, X, G, c, e⟩ := T.ex
  exact c.def_ 37 rfl
theorem Txt.f_law_drop (T : Txt K mg) : ∃ fd, FunD K d_law_drop.name d_law_drop.qual d_law_drop.params d_law_drop.body d_law_drop.scope (d_law_drop.dvs K) (d_law_drop.kws K) (He.fAd K d_law_drop.at_) fd := by
  obtain ⟨h, X, G, c, e⟩ := T.ex
  exact c.def_ 38 rfl
theorem Txt.f_law_springs (T : Txt K mg) : ∃ fd, FunD K d_law_springs.name d_law_springs.qual d_law_springs.params d_law_springs.body d_law_springs.scope (d_law_springs.dvs K) (d_law_springs.kws K) (He.fAd K d_law_springs.at_) fd := by
  obtain ⟨h, X, G, c, e⟩ := T.ex
  exact c.def_ 39 rfl
theorem Txt.f_law_made (T : Txt K mg) : ∃ fd, FunD K d_law_made.name d_law_made.qual d_law_made.params d_law_made.body d_law_made.scope (d_law_made.dvs K) (d_law_made.kws K) (He.fAd K d_law_made.at_) fd := by
  obtain ⟨h, X, G, c, e⟩ := T.ex
  exact c.def_ 40 rfl
theorem Txt.f_law_is_whole (T : Txt K mg) : ∃ fd, FunD K d_law_is_whole.name d_law_is_whole.qual d_law_is_whole.params d_law_is_whole.body d_law_is_whole.scope (d_law_is_whole.dvs K) (d_law_is_whole.kws K) (He.fAd K d_law_is_whole.at_) fd := by
  obtain ⟨h, X, G, c, e⟩ := T.ex
  exact c.def_ 41 rfl
theorem Txt.f_law_is_report (T : Txt K mg) : ∃ fd, FunD K d_law_is_report.name d_law_is_report.qual d_law_is_report.params d_law_is_report.body d_law_is_report.scope (d_law_is_report.dvs K) (d_law_is_report.kws K) (He.fAd K d_law_is_report.at_) fd := by
  obtain ⟨h, X, G, c, e⟩ := T.ex
  exact c.def_ 42 rfl
theorem Txt.f_law_asked (T : Txt K mg) : ∃ fd, FunD K d_law_asked.name d_law_asked.qual d_law_asked.params d_law_asked.body d_law_asked.scope (d_law_asked.dvs K) (d_law_asked.kws K) (He.fAd K d_law_asked.at_) fd := by
  obtain ⟨h, X, G, c, e⟩ := T.ex
  exact c.def_ 43 rfl
theorem Txt.f_law_stands (T : Txt K mg) : ∃ fd, FunD K d_law_stands.name d_law_stands.qual d_law_stands.params d_law_stands.body d_law_stands.scope (d_law_stands.dvs K) (d_law_stands.kws K) (He.fAd K d_law_stands.at_) fd := by
  obtain ⟨h, X, G, c, e⟩ := T.ex
  exact c.def_ 44 rfl
theorem Txt.f_law_wrong (T : Txt K mg) : ∃ fd, FunD K d_law_wrong.name d_law_wrong.qual d_law_wrong.params d_law_wrong.body d_law_wrong.scope (d_law_wrong.dvs K) (d_law_wrong.kws K) (He.fAd K d_law_wrong.at_) fd := by
  obtain ⟨h, X, G, c, e⟩ := T.ex
  exact c.def_ 45 rfl
theorem Txt.f_law_act (T : Txt K mg) : ∃ fd, FunD K d_law_act.name d_law_act.qual d_law_act.params d_law_act.body d_law_act.scope (d_law_act.dvs K) (d_law_act.kws K) (He.fAd K d_law_act.at_) fd := by
  obtain ⟨h, X, G, c, e⟩ := T.ex
  exact c.def_ 46 rfl
theorem Txt.f_law_code (T : Txt K mg) : ∃ fd, FunD K d_law_code.name d_law_code.qual d_law_code.params d_law_code.body d_law_code.scope (d_law_code.dvs K) (d_law_code.kws K) (He.fAd K d_law_code.at_) fd := by
  obtain ⟨h, X, G, c, e⟩ := T.ex
  exact c.def_ 47 rfl
theorem Txt.f_law_due (T : Txt K mg) : ∃ fd, FunD K d_law_due.name d_law_due.qual d_law_due.params d_law_due.body d_law_due.scope (d_law_due.dvs K) (d_law_due.kws K) (He.fAd K d_law_due.at_) fd := by
  obtain ⟨h, X, G, c, e⟩ := T.ex
  exact c.def_ 48 rfl
theorem Txt.f_law (T : Txt K mg) : ∃ fd, FunD K d_law.name d_law.qual d_law.params d_law.body d_law.scope (d_law.dvs K) (d_law.kws K) (He.fAd K d_law.at_) fd := by
  obtain ⟨h, X, G, c, e⟩ := T.ex
  exact c.def_ 49 rfl
end
end K25


namespace K25
open PySem PySem.Spec PyProof.Rows L2
abbrev R : PySem.W.OpenRow := PySem.W.OpenLaw.row PySem.Challenge.rw_lockerwall_k25_letters_and_codes
abbrev hk : PySem.W.Hook := My.hookD2 5 fa fn ex
def ob (s : PySem.W.SharedT) : My.AlE := My.obsDG2 5 fa fn ex (HandSHeadRun.getT s)
theorem ob_eq (s : PySem.W.SharedT) : ob s = hk.obs s.abs := My.obsDG2_eq (HandSHeadRun.getT_eq s)
def loose : List PySem.Str := ((["_wall", "Told", "Box", "do_deed", "is_integer_within", "is_truth", "is_word", "WallError", "NoDays", "NoRule", "NoMoment", "NoDeed", "NoParcel", "are_truths", "is_deed", "check_are_deeds", "check_playable", "played", "play", "faults", "boxes", "is_rule", "Book", "_law_spring", "_law_drop", "_law_springs", "_law_made", "_law_is_whole", "_law_is_report", "_law_asked"] : List PySem.Str) ++ (["_law_stands", "_law_wrong", "_law_act", "_law_code", "_law_due", "MOST_PARCEL", "SINGLE_WORDS", "ACTIONS", "MOMENTS", "MOST_ACTIONS", "MOST_DAYS"] : List PySem.Str))
theorem run (w : World) : HandSHeadRun.RunEq R (PySem.W.view R.prog [48]) hk ob 6000 loose w := by
  intro os
  kernel_rfl
end K25

set_option maxHeartbeats 200000
namespace K25
open PySem PySem.Spec PyProof.Rows L2
section
variable {P : Program} {w : World} {K : PySem.W.Frag} {mg : Str → Option Value} {base : Heap}
/-! ### checks -/
def sp_is_integer_within (K : PySem.W.Frag) : Sp := fun vs H Q _ => ∃ n lo hi : Int, vs = [.int n, .int lo, .int hi] ∧ Q (.bl (decide (lo ≤ n) && decide (n ≤ hi))) H
set_option maxHeartbeats 2000000 in
theorem ok_is_integer_within (T : Txt K mg) {fd : FuncData} (F : FunD K d_is_integer_within.name d_is_integer_within.qual d_is_integer_within.params d_is_integer_within.body d_is_integer_within.scope (d_is_integer_within.dvs K) (d_is_integer_within.kws K) (He.fAd K d_is_integer_within.at_) fd) : FnOk P w K mg base C8.CX0 1 (He.fAd K d_is_integer_within.at_) fd ["value", "low", "high"] (sp_is_integer_within K) := by
  refine F.ok sc_is_integer_within (fun vs H Q E h => ?_) (fun cdv A outer s H vs Q E hr h => ?_)
  · obtain ⟨n, lo, hi, rfl, _⟩ := h
    rfl
  · have hu := L2.hu_of hr
    obtain ⟨n, lo, hi, rfl, q⟩ := h
    refine ⟨_, (PSs.nox ((pss_one (ps_ret (pe_and (pe_callB (My.isiK (K := K) rfl) (by rfl) T.isinstance (by decide +kernel) (pa_cons (pv 0) (pa_cons (pe_bltn (v := .ty "int") (u := .type "int") rfl T.int (by decide +kernel) rfl) pa_nil))) (pe_and (pe_not (pe_callB (My.isiK (K := K) rfl) (by rfl) T.isinstance (by decide +kernel) (pa_cons (pv 0) (pa_cons (pe_bltn (v := .ty "bool") (u := .type "bool") rfl T.bool (by decide +kernel) rfl) pa_nil)))) (pe_one (pe_chain op_le op_le (pv 1) (pv 0) (pv 2))))))))), ?_⟩
    refine ⟨_, rfl, _, _, _, _, _, rfl, .ty "int", .base (.int n), L2.kit_ty (by decide +kernel), true, rfl, ?_⟩
    refine L2.iteT ?_
    refine ⟨_, rfl, _, _, _, _, _, rfl, .ty "bool", .base (.int n), L2.kit_ty (by decide +kernel), false, rfl, true, rfl, ?_⟩
    refine L2.iteT ?_
    refine ⟨_, rfl, _, rfl, _, _, rfl, rfl, _, rfl, ?_⟩
    refine L2.ite2 (fun c => ?_) (fun c => ?_)
    · refine ⟨_, rfl, _, _, rfl, rfl, ?_⟩
      rw [c] at q
      exact q
    · have e : decide (lo ≤ n) = false := by simpa using c
      rw [e] at q
      exact q
theorem c_is_integer_within (T : Txt K mg) : C8.Cal P w K mg base 1 "is_integer_within" (sp_is_integer_within K) [] := by
  obtain ⟨fd, F⟩ := T.f_is_integer_within
  exact ⟨_, fd, _, _, ok_is_integer_within T F, T.g_is_integer_within, F.kp, F.bindsN (fun _ _ _ _ _ _ us hl => match us, hl with | [_, _, _], _ => rfl), .nil⟩
def sp_is_truth (K : PySem.W.Frag) : Sp := fun vs H Q _ => ∃ b : Bool, vs = [.bl b] ∧ Q (.bl true) H
set_option maxHeartbeats 2000000 in
theorem ok_is_truth (T : Txt K mg) {fd : FuncData} (F : FunD K d_is_truth.name d_is_truth.qual d_is_truth.params d_is_truth.body d_is_truth.scope (d_is_truth.dvs K) (d_is_truth.kws K) (He.fAd K d_is_truth.at_) fd) : FnOk P w K mg base C8.CX0 1 (He.fAd K d_is_truth.at_) fd ["value"] (sp_is_truth K) := by
  refine F.ok sc_is_truth (fun vs H Q E h => ?_) (fun cdv A outer s H vs Q E hr h => ?_)
  · obtain ⟨b, rfl, _⟩ := h
    rfl
  · have hu := L2.hu_of hr
    obtain ⟨b, rfl, q⟩ := h
    refine ⟨_, (PSs.nox ((pss_one (ps_ret (pe_or (pe_cmpR op_isBl (pv 0) pe_bl (nomark _)) (pe_one (pe_cmpR op_isBl (pv 0) pe_bl (nomark _)))))))), ?_⟩
    refine ⟨_, rfl, _, _, rfl, rfl, _, rfl, ?_⟩
    cases b with
    | true => exact L2.iteT q
    | false => exact L2.iteF ⟨_, rfl, _, _, rfl, rfl, q⟩
theorem c_is_truth (T : Txt K mg) : C8.Cal P w K mg base 1 "is_truth" (sp_is_truth K) [] := by
  obtain ⟨fd, F⟩ := T.f_is_truth
  exact ⟨_, fd, _, _, ok_is_truth T F, T.g_is_truth, F.kp, F.bindsN (fun _ _ _ _ _ _ us hl => match us, hl with | [_], _ => rfl), .nil⟩
def sp_is_word (K : PySem.W.Frag) : Sp := fun vs H Q _ => ∃ (x : Str) (a : Addr) (ws : List Str), vs = [.str x, .ref a] ∧ SqT K H a (ws.map V.str) ∧ Q (.bl (decide (x ∈ ws))) H
set_option maxHeartbeats 2000000 in
theorem ok_is_word (T : Txt K mg) {fd : FuncData} (F : FunD K d_is_word.name d_is_word.qual d_is_word.params d_is_word.body d_is_word.scope (d_is_word.dvs K) (d_is_word.kws K) (He.fAd K d_is_word.at_) fd) : FnOk P w K mg base C8.CX0 1 (He.fAd K d_is_word.at_) fd ["value", "words"] (sp_is_word K) := by
  refine F.ok sc_is_word (fun vs H Q E h => ?_) (fun cdv A outer s H vs Q E hr h => ?_)
  · obtain ⟨x, a, ws, rfl, _⟩ := h
    rfl
  · have hu := L2.hu_of hr
    obtain ⟨x, a, ws, rfl, hS, q⟩ := h
    refine ⟨_, (PSs.nox ((pss_one (ps_ret (pe_and (pe_callB (My.isiK (K := K) rfl) (by rfl) T.isinstance (by decide +kernel) (pa_cons (pv 0) (pa_cons (pe_bltn (v := .ty "str") (u := .type "str") rfl T.str (by decide +kernel) rfl) pa_nil))) (pe_one (pe_cmpR (My.in_seqK (K := K) rfl) (pv 0) (pv 1) (by rfl)))))))), ?_⟩
    refine ⟨_, rfl, _, _, _, _, _, rfl, .ty "str", .base (.str x), L2.kit_ty (by decide +kernel), true, rfl, ?_⟩
    refine L2.iteT ?_
    refine ⟨_, rfl, _, rfl, a, _, rfl, .inr hS, rfl, My.all_flat_str ws, ?_⟩
    show Q (.bl (if false = true then _ else inV (.str x) (ws.map V.str))) H
    rw [if_neg Bool.false_ne_true, My.inV_str]
    exact q
theorem c_is_word (T : Txt K mg) : C8.Cal P w K mg base 1 "is_word" (sp_is_word K) [] := by
  obtain ⟨fd, F⟩ := T.f_is_word
  exact ⟨_, fd, _, _, ok_is_word T F, T.g_is_word, F.kp, F.bindsN (fun _ _ _ _ _ _ us hl => match us, hl with | [_, _], _ => rfl), .nil⟩
end
end K25

namespace K25
open PySem PySem.Spec PyProof.Rows L2 My
/-! ### books -/
abbrev acts : List Str := ["free", "full", "off", "code", "void", "look", "lock"]
abbrev moms : List Str := ["given", "laid", "left", "opened", "taken", "gone", "late", "power"]
abbrev RuleL := List Str
def GoodRule (r : RuleL) : Prop := r.length ≤ 6 ∧ ∀ x ∈ r, x ∈ acts
/-- a rule as it stands: a tuple of texts -/
def RuleAt (K : PySem.W.Frag) (H : Hp) (a : Addr) (r : RuleL) : Prop := SqT K H a (r.map V.str)
def bkf (d : Int) (t : Addr) : List (Str × V) := [("_days", V.int d), ("_rules", V.ref t)]
/-- a book of d days with these rules -/
def BookAt (K : PySem.W.Frag) (H : Hp) (b : Addr) (d : Int) (rs : List RuleL) : Prop := ∃ (dx t : Addr) (as : List Addr), H b = some (.ins (He.ga K "Book") dx (bkf d t)) ∧ SqT K H t (as.map V.ref) ∧ Paired (RuleAt K H) as rs ∧ rs.length = 8
theorem RuleAt.but {K : PySem.W.Frag} {xs : List Addr} {H H' : Hp} {a : Addr} {r : RuleL} (s : But xs H H') (n : a ∉ xs) (h : RuleAt K H a r) : RuleAt K H' a r := s.tup n h
theorem paired_map {α β : Type} {F G : α → β → Prop} : ∀ {l : List α} {m : List β}, (∀ a b, a ∈ l → F a b → G a b) → Paired F l m → Paired G l m
  | _, _, _, .nil => .nil
  | _, _, h, .cons r t => .cons (h _ _ (List.mem_cons_self ..) r) (paired_map (fun a b m => h a b (List.mem_cons_of_mem _ m)) t)
theorem paired_get {α β : Type} {F : α → β → Prop} : ∀ {l : List α} {m : List β} {i : Nat} {b : β}, Paired F l m → m[i]? = some b → ∃ a, l[i]? = some a ∧ F a b
  | _, _, _, _, .nil, e => by simp at e
  | _, _, 0, _, .cons r _, e => by simp at e; subst e; exact ⟨_, rfl, r⟩
  | _, _, i + 1, _, .cons _ t, e => by
    obtain ⟨a, h1, h2⟩ := paired_get t (by simpa using e)
    exact ⟨a, by simpa using h1, h2⟩
theorem BookAt.same {K : PySem.W.Frag} {H H' : Hp} {b : Addr} {d : Int} {rs : List RuleL} (s : Same H H') (h : BookAt K H b d rs) : BookAt K H' b d rs := by
  obtain ⟨dx, t, as, h1, h2, h3, h4⟩ := h
  exact ⟨dx, t, as, s _ _ h1, same_tup s h2, paired_map (fun a b _ r => same_tup s r) h3, h4⟩
section
variable {P : Program} {w : World} {K : PySem.W.Frag} {mg : Str → Option Value} {base : Heap}
def sp_is_rule (K : PySem.W.Frag) : Sp := fun vs H Q _ => ∃ (a : Addr) (r : RuleL), vs = [.ref a] ∧ RuleAt K H a r ∧ GoodRule r ∧ ∀ H', Same H H' → Q (.bl true) H'
set_option maxHeartbeats 2000000 in
theorem ok_is_rule (T : Txt K mg) {fd : FuncData} (F : FunD K d_is_rule.name d_is_rule.qual d_is_rule.params d_is_rule.body d_is_rule.scope (d_is_rule.dvs K) (d_is_rule.kws K) (He.fAd K d_is_rule.at_) fd) : FnOk P w K mg base C8.CX0 2 (He.fAd K d_is_rule.at_) fd ["value"] (sp_is_rule K) := by
  obtain ⟨t_MOST_ACTIONS, g_MOST_ACTIONS⟩ := T.g_MOST_ACTIONS
  have c_is_word := c_is_word (P := P) (w := w) (base := base) T
  refine F.ok sc_is_rule (fun vs H Q E h => ?_) (fun cdv A outer s H vs Q E hr h => ?_)
  · obtain ⟨a, r, rfl, _⟩ := h
    rfl
  · have hu := L2.hu_of hr
    obtain ⟨a, r, rfl, hS, hg, q⟩ := h
    refine ⟨_, (PSs.nox ((pss_cons (ps_if (PW.pt (pw_or (pt_not (pt_val (pe_callB (My.isiK (K := K) rfl) (by rfl) T.isinstance (by decide +kernel) (pa_cons (pv 0) (pa_cons (pe_bltn (v := .ty "tuple") (u := .type "tuple") rfl T.tuple (by decide +kernel) rfl) pa_nil))))) (pw_or1 (pt_cmpR op_gt (pe_callB (My.len_seqK (K := K) rfl) (by rfl) T.len (by decide +kernel) (pa_cons (pv 0) pa_nil)) (pe_glob (v := .int 6) rfl g_MOST_ACTIONS ⟨_, rfl⟩) (nomark _)))))
  (pss_one (ps_ret pe_bl))
  pss_nil)
  (pss_one (ps_ret (pe_callB (My.allK (K := K) rfl rfl) (by rfl) T.all (by decide +kernel) (pa_cons (pe_lc (own := [("action", 1)]) (g := (gName 1)) (tt := tYes) (by rfl) sc_is_rule.nd (My.pi_tupK (K := K) rfl (pv 0)) (blkOk_by (N := N_is_rule) (sc := defScope s_is_rule) (by decide +kernel)) (fun _ _ _ _ _ => (pg_name (i := 1) sc_is_rule.nd rfl (by first | exact Or.inl rfl | exact Or.inr rfl))) (fun _ _ _ _ _ => pts_nil) (fun _ _ _ _ _ => (C8.pe_c c_is_word hr (by decide) rfl (pa_cons (pv 1) (pa_cons (pe_glob (v := .ref (He.ga K "ACTIONS")) rfl T.g_ACTIONS rfl) pa_nil))))) pa_nil))))))), ?_⟩
    refine ⟨_, rfl, _, _, _, _, _, rfl, .ty "tuple", tyx_tup hS, L2.kit_ty (by decide +kernel), true, rfl, ?_⟩
    refine L2.iteF ?_
    refine ⟨_, rfl, a, _, rfl, .inr hS, _, _, rfl, rfl, _, rfl, ?_⟩
    have e : decide (((r.map V.str).length : Int) > 6) = false := decide_eq_false (by rw [List.length_map]; have := hg.1; omega)
    rw [e]
    refine L2.iteF ?_
    refine ⟨_, rfl, a, rfl, ⟨_, hS⟩, fun D hD => lc_tup (K := K) (a := a) (xs := r.map V.str) (fun i H' => Same H H' ∧ H' D = some (.lst ((List.replicate i true).map V.bl))) ⟨same_new hD, upd_same⟩ (fun i H' _ p => same_tup p.1 hS) ?_ ?_⟩
    · rintro i y H2 hi ⟨s2, hD2⟩
      obtain ⟨z, hz, rfl⟩ := map_get hi
      have hlt : i < r.length := (List.getElem?_eq_some_iff.mp hz).1
      have hm : z ∈ acts := hg.2 z (List.mem_of_getElem? hz)
      refine ⟨rfl, ?_⟩
      refine ⟨_, rfl, z, _, acts, rfl, T.tup_ACTIONS _, ?_⟩
      rw [decide_eq_true hm]
      refine ⟨_, hD2, ?_, same_upd s2 hD, ?_⟩
      · rw [List.length_map, List.length_replicate]
        have := hg.1
        exact Nat.lt_of_lt_of_le hlt (Nat.le_trans this (by decide))
      · rw [upd_same, List.replicate_succ', List.map_append]
        rfl
    · rintro H2 ⟨s2, hD2⟩
      refine ⟨D, _, rfl, SqL.of hD2, ?_⟩
      have e2 : (List.replicate (r.map V.str).length true).all id = true := List.all_eq_true.mpr fun x hx => (List.mem_replicate.mp hx).2
      rw [e2]
      exact q _ s2
theorem c_is_rule (T : Txt K mg) : C8.Cal P w K mg base 2 "is_rule" (sp_is_rule K) [] := by
  obtain ⟨fd, F⟩ := T.f_is_rule
  exact ⟨_, fd, _, _, ok_is_rule T F, T.g_is_rule, F.kp, F.bindsN (fun _ _ _ _ _ _ us hl => match us, hl with | [_], _ => rfl), .nil⟩
def sp_Book_init (K : PySem.W.Frag) : Sp := fun vs H Q _ => ∃ (p dx : Addr) (d : Int) (as : List Addr) (rs : List RuleL), vs = .ref p :: .int d :: as.map V.ref ∧ H p = some (.ins (He.ga K "Book") dx []) ∧ 1 ≤ d ∧ d ≤ 30 ∧
  Paired (RuleAt K H) as rs ∧ rs.length = 8 ∧ (∀ r ∈ rs, GoodRule r) ∧ ∀ H' t, But [p] H H' → H' p = some (.ins (He.ga K "Book") dx (bkf d t)) → H' t = some (.tup (as.map V.ref)) → Q .non H'
theorem len8 {α β : Type} {F : α → β → Prop} {as : List α} {rs : List β} (h : Paired F as rs) (e : rs.length = 8) : ∃ a0 a1 a2 a3 a4 a5 a6 a7, as = [a0, a1, a2, a3, a4, a5, a6, a7] := by
  have l : as.length = 8 := h.length.trans e
  match as, l with
  | [a0, a1, a2, a3, a4, a5, a6, a7], _ => exact ⟨a0, a1, a2, a3, a4, a5, a6, a7, rfl⟩
set_option maxHeartbeats 2000000 in
theorem ok_Book_init (T : Txt K mg) {fd : FuncData} (F : FunD K d_Book_init.name d_Book_init.qual d_Book_init.params d_Book_init.body d_Book_init.scope (d_Book_init.dvs K) (d_Book_init.kws K) (He.fAd K d_Book_init.at_) fd) : FnOk P w K mg base C8.CX0 3 (He.fAd K d_Book_init.at_) fd ["self", "days", "given", "laid", "left", "opened", "taken", "gone", "late", "power"] (sp_Book_init K) := by
  obtain ⟨t_MOST_DAYS, g_MOST_DAYS⟩ := T.g_MOST_DAYS
  have c_is_rule := c_is_rule (P := P) (w := w) (base := base) T
  have c_is_integer_within := c_is_integer_within (P := P) (w := w) (base := base) T
  refine F.ok sc_Book_init (fun vs H Q E h => ?_) (fun cdv A outer s H vs Q E hr h => ?_)
  · obtain ⟨p, dx, d, as, rs, rfl, _, _, _, h3, h4, _⟩ := h
    obtain ⟨a0, a1, a2, a3, a4, a5, a6, a7, rfl⟩ := len8 h3 h4
    rfl
  · have hu := L2.hu_of hr
    obtain ⟨p, dx, d, as, rs, rfl, hp, h1, h2, h3, h4, h5, q⟩ := h
    obtain ⟨a0, a1, a2, a3, a4, a5, a6, a7, rfl⟩ := len8 h3 h4
    refine ⟨_, (PSs.nox ((pss_cons (ps_if (pt_not (pt_val (C8.pe_c c_is_integer_within hr (by decide) rfl (pa_cons (pv 1) (pa_cons pe_int (pa_cons (pe_glob (v := .int 30) rfl g_MOST_DAYS ⟨_, rfl⟩) pa_nil))))))
  (pss_one ps_never)
  pss_nil)
  (pss_cons (ps_set (i := 10) sc_Book_init.nd rfl (by first | exact Or.inl rfl | exact Or.inr rfl) (pe_tup (pa_cons (pv 2) (pa_cons (pv 3) (pa_cons (pv 4) (pa_cons (pv 5) (pa_cons (pv 6) (pa_cons (pv 7) (pa_cons (pv 8) (pa_cons (pv 9) pa_nil))))))))))
  (pss_cons (ps_for PassesOwn.never rfl (RZ.pi_zipA (by rfl) T.zip (pa_cons (pe_glob (v := .ref (He.ga K "MOMENTS")) rfl T.g_MOMENTS rfl) (pa_cons (pv 10) pa_nil))) (My.pg_tupK (K := K) (n := 2) rfl rfl (pgs_cons (pg_name (i := 11) sc_Book_init.nd rfl (by first | exact Or.inl rfl | exact Or.inr rfl)) (pgs_cons (pg_name (i := 12) sc_Book_init.nd rfl (by first | exact Or.inl rfl | exact Or.inr rfl)) pgs_nil)))
  (pss_one (ps_if (pt_not (pt_val (C8.pe_c c_is_rule hr (by decide) rfl (pa_cons (pv 12) pa_nil))))
  (pss_one ps_never)
  pss_nil)))
  (pss_cons (ps_fld (pv 0) (pv 1) rfl)
  (pss_one (ps_fld (pv 0) (pv 10) rfl)))))))), ?_⟩
    refine ⟨_, rfl, d, 1, 30, rfl, true, by rw [decide_eq_true h1, decide_eq_true h2] <;> rfl, ?_⟩
    refine L2.iteF ?_
    refine ⟨_, rfl, _, rfl, _, rfl, _, rfl, _, rfl, _, rfl, _, rfl, _, rfl, by show 8 ≤ sizeLine; decide, fun t ht => ?_⟩
    have npt : p ≠ t := ne_of_none hp ht
    refine ⟨_, rfl, _, _, moms.map V.str, [V.ref a0, V.ref a1, V.ref a2, V.ref a3, V.ref a4, V.ref a5, V.ref a6, V.ref a7], rfl, .inr ⟨T.tup_MOMENTS _, SqT.of upd_same, ?_⟩⟩
    refine RZ.for_zipT (K := K) (xs := moms.map V.str) (ys := [V.ref a0, V.ref a1, V.ref a2, V.ref a3, V.ref a4, V.ref a5, V.ref a6, V.ref a7]) rfl (fun i σ H' => ∃ u v, σ = [some (.ref p), some (.int d), some (.ref a0), some (.ref a1), some (.ref a2), some (.ref a3), some (.ref a4), some (.ref a5), some (.ref a6), some (.ref a7), some (.ref t), u, v] ∧ Same (upd H t (.tup [V.ref a0, V.ref a1, V.ref a2, V.ref a3, V.ref a4, V.ref a5, V.ref a6, V.ref a7])) H')
      ⟨_, _, rfl, Same.refl _⟩ (fun i σ H' ⟨_, _, _, s⟩ => ⟨T.tup_MOMENTS _, same_tup s (SqT.of upd_same)⟩) ?_ ?_
    · rintro i x y T2 σ H2 hx hy ⟨u, v, rfl, s2⟩ hT2
      refine ⟨_, _, rfl, SqT.of upd_same, rfl, _, _, rfl, _, _, rfl, rfl, ?_⟩
      have hy' : ([a0, a1, a2, a3, a4, a5, a6, a7].map V.ref)[i]? = some y := hy
      obtain ⟨a, ha, rfl⟩ := map_get hy'
      obtain ⟨r, hr1, hr2⟩ : ∃ r, rs[i]? = some r ∧ RuleAt K H a r := by
        have hlt : i < rs.length := by rw [h4]; exact (List.getElem?_eq_some_iff.mp ha).1
        obtain ⟨b, hb, hR⟩ := paired_get h3 (List.getElem?_eq_getElem hlt)
        rw [ha] at hb
        cases hb
        exact ⟨_, List.getElem?_eq_getElem hlt, hR⟩
      have s3 : Same H (upd H2 T2 (.tup [x, .ref a])) := (same_new ht).trans (s2.trans (same_new hT2))
      refine ⟨_, rfl, a, r, rfl, same_tup s3 hr2, h5 r (List.mem_of_getElem? hr1), fun H3 s4 => ?_⟩
      refine ⟨true, rfl, L2.iteF ⟨_, _, rfl, s2.trans ((same_new hT2).trans s4)⟩⟩
    · rintro σ H2 ⟨u, v, rfl, s2⟩
      have hp2 : H2 p = some (.ins (He.ga K "Book") dx []) := s2 _ _ (by rw [upd_ne npt]; exact hp)
      have ht2 : H2 t = some (.tup [V.ref a0, V.ref a1, V.ref a2, V.ref a3, V.ref a4, V.ref a5, V.ref a6, V.ref a7]) := s2 _ _ upd_same
      refine ⟨_, rfl, _, rfl, p, _, dx, _, rfl, hp2, T.cl_Book, T.no_Book__days, (by show 0 < 1000; decide), ?_⟩
      refine ⟨_, rfl, _, rfl, p, _, dx, _, rfl, upd_same, T.cl_Book, T.no_Book__rules, (by show 1 < 1000; decide), ?_⟩
      refine q _ t ?_ upd_same ?_
      · exact (((But.of ((same_new ht).trans s2)).put (.inr (by simp))).put (.inr (by simp)))
      · rw [upd_ne npt.symm, upd_ne npt.symm]
        exact ht2
theorem c_Book_init (T : Txt K mg) : C8.Mak P w K mg base 3 "Book" (He.ga K "Book") (sp_Book_init K) [] := by
  obtain ⟨fd, F⟩ := T.f_Book_init
  obtain ⟨ds, rd, bd⟩ := F.binds1 (ps := ["self", "days", "given", "laid", "left", "opened", "taken", "gone", "late", "power"]) 10 8 (by intro z; cases z) rfl (fun T kV doc pm an cdv ct us its hl hi => match us, its, hl, hi with | [_, _, _, _, _, _, _, _, _, _], [_, _, _, _, _, _, _, _], _, _ => ⟨_, rfl, rfl⟩)
  exact ⟨_, fd, _, _, T.mk_Book, ok_Book_init T F, T.g_Book, bd, rd⟩
def sp_Book_days (K : PySem.W.Frag) : Sp := fun vs H Q _ => ∃ (b : Addr) (d : Int) (rs : List RuleL), vs = [.ref b] ∧ BookAt K H b d rs ∧ Q (.int d) H
set_option maxHeartbeats 2000000 in
theorem ok_Book_days (T : Txt K mg) {fd : FuncData} (F : FunD K d_Book_days.name d_Book_days.qual d_Book_days.params d_Book_days.body d_Book_days.scope (d_Book_days.dvs K) (d_Book_days.kws K) (He.fAd K d_Book_days.at_) fd) : FnOk P w K mg base C8.CX0 1 (He.fAd K d_Book_days.at_) fd ["self"] (sp_Book_days K) := by
  refine F.ok sc_Book_days (fun vs H Q E h => ?_) (fun cdv A outer s H vs Q E hr h => ?_)
  · obtain ⟨b, d, rs, rfl, _⟩ := h
    rfl
  · have hu := L2.hu_of hr
    obtain ⟨b, d, rs, rfl, ⟨dx, t, as, hb, _⟩, q⟩ := h
    refine ⟨_, (PSs.nox ((pss_one (ps_ret (My.pe_fldK (K := K) rfl (pv 0) rfl))))), ?_⟩
    exact ⟨_, rfl, b, _, dx, _, _, rfl, hb, T.cl_Book, T.no_Book__days, rfl, q⟩
theorem c_Book_days (T : Txt K mg) : C8.Met P w K mg base 1 (He.ga K "Book") "days" (sp_Book_days K) [] := by
  obtain ⟨fd, F⟩ := T.f_Book_days
  exact ⟨_, fd, _, _, T.cl_Book, T.m_Book_days, ok_Book_days T F, F.bindsN (fun _ _ _ _ _ _ us hl => match us, hl with | [_], _ => rfl), .nil⟩
/-- the rule of the i-th moment -/
def sp_Book_rule (K : PySem.W.Frag) : Sp := fun vs H Q _ => ∃ (H0 : Hp) (b : Addr) (d : Int) (rs : List RuleL) (m : Str) (i : Nat) (r : RuleL), vs = [.ref b, .str m] ∧ Same H0 H ∧ BookAt K H0 b d rs ∧ moms[i]? = some m ∧ rs[i]? = some r ∧ ∀ a, RuleAt K H0 a r → Q (.ref a) H
set_option maxHeartbeats 2000000 in
theorem ok_Book_rule (T : Txt K mg) {fd : FuncData} (F : FunD K d_Book_rule.name d_Book_rule.qual d_Book_rule.params d_Book_rule.body d_Book_rule.scope (d_Book_rule.dvs K) (d_Book_rule.kws K) (He.fAd K d_Book_rule.at_) fd) : FnOk P w K mg base C8.CX0 2 (He.fAd K d_Book_rule.at_) fd ["self", "moment"] (sp_Book_rule K) := by
  have c_is_word := c_is_word (P := P) (w := w) (base := base) T
  refine F.ok sc_Book_rule (fun vs H Q E h => ?_) (fun cdv A outer s H vs Q E hr h => ?_)
  · obtain ⟨H0, b, d, rs, m, i, r, rfl, _⟩ := h
    rfl
  · have hu := L2.hu_of hr
    obtain ⟨H0, b, d, rs, m, i, r, rfl, s0, ⟨dx, t, as, hb0, ht0, hrs, hl⟩, hm, hr1, q⟩ := h
    have hb := s0 _ _ hb0
    have ht := same_tup s0 ht0
    refine ⟨_, (PSs.nox ((pss_cons (ps_if (pt_not (pt_val (C8.pe_c c_is_word hr (by decide) rfl (pa_cons (pv 1) (pa_cons (pe_glob (v := .ref (He.ga K "MOMENTS")) rfl T.g_MOMENTS rfl) pa_nil)))))
  (pss_one ps_never)
  pss_nil)
  (pss_one (ps_ret (pe_ix (My.ix_tupK (K := K) rfl) (My.pe_fldK (K := K) rfl (pv 0) rfl) (My.pe_bmK (K := K) rfl PySem.F.plainAttrs_tuple PySem.F.slot_tuple_index PySem.F.type_tuple_index (My.tup_indexK (K := K) rfl) (pe_glob (v := .ref (He.ga K "MOMENTS")) rfl T.g_MOMENTS rfl) (pa_cons (pv 1) pa_nil)) (fun _ _ => rfl))))))), ?_⟩
    have hmem : m ∈ moms := List.mem_of_getElem? hm
    refine ⟨_, rfl, m, _, moms, rfl, T.tup_MOMENTS _, true, by rw [decide_eq_true hmem], ?_⟩
    refine L2.iteF ?_
    obtain ⟨a, ha, hR⟩ := paired_get hrs hr1
    have first : ∀ j, j < i → moms[j]? ≠ some m := by
      intro j hj e
      have hn : moms.Nodup := by decide +kernel
      exact absurd (L2.nd_ix hn e hm) (by omega)
    refine ⟨_, rfl, b, _, dx, _, _, rfl, hb, T.cl_Book, T.no_Book__rules, rfl, T.ty_MOMENTS _, _, rfl, _, moms, m, i, rfl, rfl, T.tup_MOMENTS _, hm, first, ?_⟩
    refine ⟨t, _, _, _, rfl, rfl, ht, atI_nat (by rw [List.getElem?_map, ha]; rfl), q a hR⟩
theorem c_Book_rule (T : Txt K mg) : C8.Met P w K mg base 2 (He.ga K "Book") "rule" (sp_Book_rule K) [] := by
  obtain ⟨fd, F⟩ := T.f_Book_rule
  exact ⟨_, fd, _, _, T.cl_Book, T.m_Book_rule, ok_Book_rule T F, F.bindsN (fun _ _ _ _ _ _ us hl => match us, hl with | [_, _], _ => rfl), .nil⟩
end
end K25

namespace K25
open PySem PySem.Spec PyProof.Rows L2 My
/-! ### springs: where a law's draws come from -/
/-- at a: a spring that was drawn from at most n times -/
def SpringAt (H : Hp) (a : Addr) (n : Nat) : Prop := ∃ w0 w1 w2 : Int, H a = some (.lst [.int w0, .int w1, .int w2]) ∧ w1.natAbs < 2 ^ 200 ∧ 0 ≤ w2 ∧ w2 ≤ (n : Int)
theorem SpringAt.mono {H : Hp} {a : Addr} {n m : Nat} (h : SpringAt H a n) (e : n ≤ m) : SpringAt H a m := by
  obtain ⟨w0, w1, w2, h1, h2, h3, h4⟩ := h
  exact ⟨w0, w1, w2, h1, h2, h3, by omega⟩
theorem pow_lt {x : Int} {k n : Nat} (h : x.natAbs < 2 ^ k) (hn : n ≠ 0) : (x ^ n).natAbs < 2 ^ (k * n) := by
  rw [Int.natAbs_pow, Nat.pow_mul]
  exact Nat.pow_lt_pow_left h hn
theorem two_le {a b x : Nat} (h : x < 2 ^ a) (e : a ≤ b) : x < 2 ^ b := Nat.lt_of_lt_of_le h (Nat.pow_le_pow_right (by decide) e)
theorem add_lt {x y : Int} {k : Nat} (h1 : x.natAbs < 2 ^ k) (h2 : y.natAbs < 2 ^ k) : (x + y).natAbs < 2 ^ (k + 1) := by
  have h3 := Int.natAbs_add_le x y
  have h4 : 2 ^ (k + 1) = 2 ^ k + 2 ^ k := by rw [Nat.pow_succ]; omega
  omega
theorem emod_lt2 {x m : Int} {k : Nat} (h0 : 0 < m) (h : m.natAbs < 2 ^ k) : (x % m).natAbs < 2 ^ k := by
  have h1 := Int.emod_nonneg x (show m ≠ 0 by omega)
  have h2 := Int.emod_lt_of_pos x h0
  omega
set_option exponentiation.threshold 20000 in
theorem powW {x j : Int} {k : Nat} (h : x.natAbs < 2 ^ k) (hk : k ≤ 10000) (h1 : 0 ≤ j) (h2 : j ≤ 100) : CPowW x j := ⟨h1, h2, two_le h hk⟩
theorem ten_pow {j : Int} (h1 : 0 ≤ j) (h2 : j ≤ 100) : CPowW 10 j := powW (k := 4) (by decide) (by decide) h1 h2
section
variable {P : Program} {w : World} {K : PySem.W.Frag} {mg : Str → Option Value} {base : Heap}
def sp_law_drop (K : PySem.W.Frag) : Sp := fun vs H Q _ => ∃ (a : Addr) (n : Nat) (many : Int), vs = [.ref a, .int many] ∧ SpringAt H a n ∧ n < 2 ^ 100 ∧ 0 < many ∧ many < 2 ^ 100 ∧
  ∀ H' k, But [a] H H' → SpringAt H' a (n + 1) → 0 ≤ k → k < many → Q (.int k) H'
set_option maxHeartbeats 2000000 in
theorem ok_law_drop (T : Txt K mg) {fd : FuncData} (F : FunD K d_law_drop.name d_law_drop.qual d_law_drop.params d_law_drop.body d_law_drop.scope (d_law_drop.dvs K) (d_law_drop.kws K) (He.fAd K d_law_drop.at_) fd) : FnOk P w K mg base C8.CX0 1 (He.fAd K d_law_drop.at_) fd ["spring", "many"] (sp_law_drop K) := by
  refine F.ok sc_law_drop (fun vs H Q E h => ?_) (fun cdv A outer s H vs Q E hr h => ?_)
  · obtain ⟨a, n, many, rfl, _⟩ := h
    rfl
  · have hu := L2.hu_of hr
    obtain ⟨a, n, many, rfl, ⟨w0, w1, w2, ha, hw1, hw2, hw3⟩, hn, hm0, hm1, q⟩ := h
    refine ⟨_, (PSs.nox ((pss_cons (ps_if (pt_cmpR op_gt (pe_ix (My.ix_listK (K := K) rfl) (pv 0) pe_int (fun _ _ => rfl)) pe_int (nomark _))
  (pss_cons (ps_set (i := 2) sc_law_drop.nd rfl (by first | exact Or.inl rfl | exact Or.inr rfl) (pe_op op_mod (pe_callTy call_int1 (by rfl) T.int (by decide +kernel) (pa_cons (pe_ix (My.ix_listK (K := K) rfl) (pv 0) pe_int (fun _ _ => rfl)) pa_nil)) (pv 1)))
  (pss_cons (ps_asg (pe_op op_fdivW (pe_ix (My.ix_listK (K := K) rfl) (pv 0) pe_int (fun _ _ => rfl)) (pv 1)) (pg_sub (pv 0) pe_int set_list))
  (pss_one (ps_ret (pv 2)))))
  pss_nil)
  (pss_cons (ps_asg (pe_op op_add (pe_ix (My.ix_listK (K := K) rfl) (pv 0) pe_int (fun _ _ => rfl)) pe_int) (pg_sub (pv 0) pe_int set_list))
  (pss_cons (ps_set (i := 3) sc_law_drop.nd rfl (by first | exact Or.inl rfl | exact Or.inr rfl) (pe_op op_mod (pe_callTy call_int1 (by rfl) T.int (by decide +kernel) (pa_cons (pe_op op_add (pe_op My.op_powW (pe_ix (My.ix_listK (K := K) rfl) (pv 0) pe_int (fun _ _ => rfl)) pe_int) (pe_op op_mulW pe_int (pe_op My.op_powW (pe_ix (My.ix_listK (K := K) rfl) (pv 0) pe_int (fun _ _ => rfl)) pe_int))) pa_nil)) (pe_op op_add (pe_op My.op_powW pe_int pe_int) pe_int)))
  (pss_cons (ps_set (i := 3) sc_law_drop.nd rfl (by first | exact Or.inl rfl | exact Or.inr rfl) (pe_op op_mod (pe_callTy call_int1 (by rfl) T.int (by decide +kernel) (pa_cons (pe_op My.op_powW (pe_op op_add (pv 3) pe_int) pe_int) pa_nil)) (pe_op op_add (pe_op My.op_powW pe_int pe_int) pe_int)))
  (pss_one (ps_ret (pe_op op_mod (pe_callTy call_int1 (by rfl) T.int (by decide +kernel) (pa_cons (pe_op op_fdivW (pv 3) (pe_op My.op_powW pe_int pe_int)) pa_nil)) (pv 1)))))))))), ?_⟩
    have hmW : CDivW w0 many := wide_div (b := 100) hm0 (by omega) (by decide) (by decide)
    refine ⟨_, rfl, a, _, _, _, rfl, rfl, SqL.of ha, rfl, _, _, rfl, rfl, _, rfl, ?_⟩
    refine L2.ite2 (fun c => ?_) (fun c => ?_)
    · refine ⟨_, rfl, a, _, _, _, rfl, rfl, SqL.of ha, rfl, .inl ⟨_, rfl, _, rfl, _, _, rfl, rfl, hm0, ?_⟩⟩
      refine ⟨_, rfl, a, _, _, _, rfl, rfl, SqL.of ha, rfl, _, rfl, _, _, rfl, rfl, hmW, _, rfl, a, _, 0, 0, rfl, rfl, ha, rfl, ?_⟩
      refine ⟨_, rfl, q _ _ ((But.refl _ _).put (.inr (by simp))) ⟨_, w1, w2, upd_same, hw1, hw2, by omega⟩ (Int.emod_nonneg _ (by omega)) (Int.emod_lt_of_pos _ hm0)⟩
    · have b2 : (w2 + 1).natAbs < 2 ^ 101 := by
        have : (2 : Nat) ^ 101 = 2 ^ 100 + 2 ^ 100 := by decide
        omega
      have p2 := pow_lt (n := 2) hw1 (by decide)
      have p3 := pow_lt (n := 3) b2 (by decide)
      have m1 : (179426549 : Int).natAbs < 2 ^ 40 := by decide
      have m37 : (0 : Int) < 10 ^ (37 : Int).toNat + 43 := by decide
      have m35 : (0 : Int) < 10 ^ (35 : Int).toNat + 69 := by decide
      refine ⟨_, rfl, a, _, _, _, rfl, rfl, SqL.of ha, rfl, _, _, rfl, rfl, _, rfl, a, _, 2, 2, rfl, rfl, ha, rfl, ?_⟩
      have ha2 : upd H a (.lst [.int w0, .int w1, .int (w2 + 1)]) a = some (.lst [.int w0, .int w1, .int (w2 + 1)]) := upd_same
      refine ⟨_, rfl, a, _, _, _, rfl, rfl, SqL.of ha2, rfl, _, _, rfl, rfl, powW hw1 (by decide) (by decide) (by decide), ?_⟩
      refine ⟨_, rfl, a, _, _, _, rfl, rfl, SqL.of ha2, rfl, _, _, rfl, rfl, powW b2 (by decide) (by decide) (by decide), ?_⟩
      refine ⟨_, _, rfl, rfl, wide_mul m1 p3 (by decide) (by decide) (by decide), ?_⟩
      refine ⟨_, _, rfl, rfl, .inl ⟨_, rfl, _, _, rfl, rfl, ten_pow (by decide) (by decide), _, _, rfl, rfl, _, _, rfl, rfl, m37, ?_⟩⟩
      have e1 := emod_lt2 (x := (w1 ^ (2 : Int).toNat + 179426549 * (w2 + 1) ^ (3 : Int).toNat)) (m := 10 ^ (37 : Int).toNat + 43) (k := 130) (by decide) (by decide)
      have e2 := add_lt (y := 15487469) e1 (by decide)
      refine ⟨_, rfl, _, _, rfl, rfl, _, _, rfl, rfl, powW e2 (by decide) (by decide) (by decide), .inl ⟨_, rfl, ?_⟩⟩
      refine ⟨_, _, rfl, rfl, ten_pow (by decide) (by decide), _, _, rfl, rfl, _, _, rfl, rfl, m35, ?_⟩
      refine ⟨_, rfl, _, _, rfl, rfl, ten_pow (by decide) (by decide), _, _, rfl, rfl, wide_div (b := 100) (by decide) (by decide) (by decide) (by decide), .inl ⟨_, rfl, ?_⟩⟩
      refine ⟨_, rfl, _, _, rfl, rfl, hm0, ?_⟩
      exact q _ _ ((But.refl _ _).put (.inr (by simp))) ⟨_, w1, w2 + 1, upd_same, hw1, by omega, by omega⟩ (Int.emod_nonneg _ (by omega)) (Int.emod_lt_of_pos _ hm0)
theorem c_law_drop (T : Txt K mg) : C8.Cal P w K mg base 1 "_law_drop" (sp_law_drop K) [] := by
  obtain ⟨fd, F⟩ := T.f_law_drop
  exact ⟨_, fd, _, _, ok_law_drop T F, T.g_law_drop, F.kp, F.bindsN (fun _ _ _ _ _ _ us hl => match us, hl with | [_, _], _ => rfl), .nil⟩
def sp_law_spring (K : PySem.W.Frag) : Sp := fun vs H Q _ => ∃ (a : Addr) (ns : List Int) (k : Int), vs = [.ref a, .int k] ∧ SqL K H a (ns.map V.int) ∧ 0 ≤ k ∧ k < 100 ∧
  ∀ H' p, H p = none → Same H H' → SpringAt H' p 1 → Q (.ref p) H'
set_option maxHeartbeats 2000000 in
theorem ok_law_spring (T : Txt K mg) {fd : FuncData} (F : FunD K d_law_spring.name d_law_spring.qual d_law_spring.params d_law_spring.body d_law_spring.scope (d_law_spring.dvs K) (d_law_spring.kws K) (He.fAd K d_law_spring.at_) fd) : FnOk P w K mg base C8.CX0 1 (He.fAd K d_law_spring.at_) fd ["script", "k"] (sp_law_spring K) := by
  refine F.ok sc_law_spring (fun vs H Q E h => ?_) (fun cdv A outer s H vs Q E hr h => ?_)
  · obtain ⟨a, ns, k, rfl, _⟩ := h
    rfl
  · have hu := L2.hu_of hr
    obtain ⟨a, ns, k, rfl, hS, hk0, hk1, q⟩ := h
    refine ⟨_, (PSs.nox ((pss_cons (ps_set (i := 2) sc_law_spring.nd rfl (by first | exact Or.inl rfl | exact Or.inr rfl) (pe_ifExp (pt_cmpR op_lt (pv 1) (pe_callB (My.len_seqK (K := K) rfl) (by rfl) T.len (by decide +kernel) (pa_cons (pv 0) pa_nil)) (nomark _)) (pe_callTy call_int1 (by rfl) T.int (by decide +kernel) (pa_cons (pe_ix (My.ix_listK (K := K) rfl) (pv 0) (pv 1) (fun _ _ => rfl)) pa_nil)) pe_int))
  (pss_one (ps_ret (pe_lst (pa_cons (pe_callB (call_max2 rfl) (by rfl) T.max (by decide +kernel) (pa_cons pe_int (pa_cons (pe_op op_sub (pe_callB call_abs (by rfl) T.abs (by decide +kernel) (pa_cons (pv 2) pa_nil)) (pe_op My.op_powW pe_int pe_int)) pa_nil))) (pa_cons (pe_op op_add (pe_op op_mod (pe_callTy call_int1 (by rfl) T.int (by decide +kernel) (pa_cons (pv 2) pa_nil)) (pe_op op_add (pe_op My.op_powW pe_int pe_int) pe_int)) (pe_op op_mulW pe_int (pe_op op_add (pv 1) pe_int))) (pa_cons pe_int pa_nil))))))))), ?_⟩
    have fin : ∀ cell : Int, (∀ p, H p = none → ∀ w0, Q (.ref p) (upd H p (.lst [.int w0, .int (cell % (10 ^ (31 : Int).toNat + 33) + 2750159 * (k + 1)), .int 1]))) := by
      intro cell p hp w0
      refine q _ p hp (same_new hp) ⟨_, _, _, upd_same, ?_, by decide, by decide⟩
      have e1 := emod_lt2 (x := cell) (m := 10 ^ (31 : Int).toNat + 33) (k := 110) (by decide) (by decide)
      have e2 : (2750159 * (k + 1)).natAbs < 2 ^ 110 := by
        have : (2 : Nat) ^ 110 > 300000000 := by decide
        omega
      exact two_le (add_lt e1 e2) (by decide)
    refine ⟨_, rfl, _, rfl, a, _, rfl, .inl hS, _, _, rfl, rfl, _, rfl, ?_⟩
    have m31 : (0 : Int) < 10 ^ (31 : Int).toNat + 33 := by decide
    have mk : CMulW 2750159 (k + 1) := by
      refine wide_mul (a := 40) (b := 40) (by decide) ?_ (by decide) (by decide) (by decide)
      have : (2 : Nat) ^ 40 > 1000 := by decide
      omega
    rw [List.length_map]
    refine L2.ite2 (fun c => ?_) (fun c => ?_)
    · have hlt : k < (ns.length : Int) := of_decide_eq_true c
      obtain ⟨j, rfl⟩ : ∃ j : Nat, k = (j : Int) := ⟨k.toNat, by omega⟩
      have hj : j < ns.length := by omega
      refine ⟨_, rfl, _, rfl, a, _, _, _, rfl, rfl, hS, atI_nat (by rw [List.getElem?_map, List.getElem?_eq_getElem hj]; rfl), .inl ⟨_, rfl, ?_⟩⟩
      refine ⟨_, rfl, _, rfl, _, _, rfl, rfl, ten_pow (by decide) (by decide), _, _, rfl, rfl, _, _, rfl, ?_⟩
      refine ⟨_, rfl, .inl ⟨_, rfl, _, _, rfl, rfl, ten_pow (by decide) (by decide), _, _, rfl, rfl, _, _, rfl, rfl, m31, ?_⟩⟩
      refine ⟨_, rfl, _, _, rfl, rfl, _, _, rfl, rfl, mk, _, _, rfl, rfl, by show 3 ≤ sizeLine; decide, fun p hp => fin _ p hp _⟩
    · refine ⟨_, rfl, _, rfl, _, _, rfl, rfl, ten_pow (by decide) (by decide), _, _, rfl, rfl, _, _, rfl, ?_⟩
      refine ⟨_, rfl, .inl ⟨_, rfl, _, _, rfl, rfl, ten_pow (by decide) (by decide), _, _, rfl, rfl, _, _, rfl, rfl, m31, ?_⟩⟩
      refine ⟨_, rfl, _, _, rfl, rfl, _, _, rfl, rfl, mk, _, _, rfl, rfl, by show 3 ≤ sizeLine; decide, fun p hp => fin _ p hp _⟩
theorem c_law_spring (T : Txt K mg) : C8.Cal P w K mg base 1 "_law_spring" (sp_law_spring K) [] := by
  obtain ⟨fd, F⟩ := T.f_law_spring
  exact ⟨_, fd, _, _, ok_law_spring T F, T.g_law_spring, F.kp, F.bindsN (fun _ _ _ _ _ _ us hl => match us, hl with | [_, _], _ => rfl), .nil⟩
end
end K25

namespace K25
open PySem PySem.Spec PyProof.Rows L2 My
theorem SpringAt.put {H : Hp} {a b : Addr} {n : Nat} {o : HO} (h : SpringAt H a n) (ne : a ≠ b) : SpringAt (upd H b o) a n := by
  obtain ⟨w0, w1, w2, h1, h2⟩ := h
  exact ⟨w0, w1, w2, by rw [upd_ne ne]; exact h1, h2⟩
theorem SpringAt.same {H H' : Hp} {a : Addr} {n : Nat} (s : Same H H') (h : SpringAt H a n) : SpringAt H' a n := by
  obtain ⟨w0, w1, w2, h1, h2⟩ := h
  exact ⟨w0, w1, w2, s _ _ h1, h2⟩
/-- a list of other things stands apart from a spring -/
theorem SpringAt.ne {H : Hp} {a b : Addr} {n : Nat} {o : HO} (h : SpringAt H a n) (hb : H b = some o) (no : ∀ i r, o ≠ .lst (.int i :: r)) : a ≠ b := by
  obtain ⟨w0, w1, w2, h1, _⟩ := h
  exact ne_of h1 hb fun z => no _ _ z.symm
theorem strs_no (ws : List Str) (i : Int) (r : List V) : HO.lst (ws.map V.str) ≠ .lst (.int i :: r) := by
  intro z
  cases ws with
  | nil => cases z
  | cons x l => cases z
theorem refs_no (ws : List Addr) (i : Int) (r : List V) : HO.lst (ws.map V.ref) ≠ .lst (.int i :: r) := by
  intro z
  cases ws with
  | nil => cases z
  | cons x l => cases z
theorem tup_no (ws : List V) (i : Int) (r : List V) : HO.tup ws ≠ .lst (.int i :: r) := fun z => by cases z
/-- a tuple stands as it was behind a change of a spring -/
theorem But.tupS {K : PySem.W.Frag} {H H' : Hp} {a b : Addr} {n : Nat} {xs : List V} (s : But [a] H H') (h : SpringAt H a n) (t : SqT K H b xs) : SqT K H' b xs := by
  obtain ⟨w0, w1, w2, h1, _⟩ := h
  rcases t with (t | ⟨o, t⟩) | t
  · exact .inl (.inl (s _ _ (by simpa using (ne_of t h1 (fun z => by cases z))) t))
  · exact .inl (.inr ⟨o, s _ _ (by simpa using (ne_of t h1 (fun z => by cases z))) t⟩)
  · exact .inr t
section
variable {P : Program} {w : World} {K : PySem.W.Frag} {mg : Str → Option Value} {base : Heap}
def sp_law_springs (K : PySem.W.Frag) : Sp := fun vs H Q _ => ∃ (a : Addr) (ns : List Int), vs = [.ref a] ∧ SqL K H a (ns.map V.int) ∧ ns.length ≤ 63 ∧
  ∀ H' p as, H p = none → Same H H' → H' p = some (.lst (as.map V.ref)) → as ≠ [] → as.length ≤ 63 → (∀ x ∈ as, H x = none ∧ SpringAt H' x 1) → Q (.ref p) H'
set_option maxHeartbeats 2000000 in
theorem ok_law_springs (T : Txt K mg) {fd : FuncData} (F : FunD K d_law_springs.name d_law_springs.qual d_law_springs.params d_law_springs.body d_law_springs.scope (d_law_springs.dvs K) (d_law_springs.kws K) (He.fAd K d_law_springs.at_) fd) : FnOk P w K mg base C8.CX0 2 (He.fAd K d_law_springs.at_) fd ["script"] (sp_law_springs K) := by
  have c_law_spring := c_law_spring (P := P) (w := w) (base := base) T
  refine F.ok sc_law_springs (fun vs H Q E h => ?_) (fun cdv A outer s H vs Q E hr h => ?_)
  · obtain ⟨a, ns, rfl, _⟩ := h
    rfl
  · have hu := L2.hu_of hr
    obtain ⟨a, ns, rfl, hS, hl, q⟩ := h
    refine ⟨_, (PSs.nox ((pss_one (ps_ret (pe_lc (own := [("k", 1)]) (g := (gName 1)) (tt := tYes) (by rfl) sc_law_springs.nd (pi_range1 (by rfl) T.range (pa_cons (pe_callB (call_max2 rfl) (by rfl) T.max (by decide +kernel) (pa_cons pe_int (pa_cons (pe_callB (call_min2 rfl) (by rfl) T.min (by decide +kernel) (pa_cons pe_int (pa_cons (pe_callB (My.len_seqK (K := K) rfl) (by rfl) T.len (by decide +kernel) (pa_cons (pv 0) pa_nil)) pa_nil))) pa_nil))) pa_nil)) (blkOk_by (N := N_law_springs) (sc := defScope s_law_springs) (by decide +kernel)) (fun _ _ _ _ _ => (pg_name (i := 1) sc_law_springs.nd rfl (by first | exact Or.inl rfl | exact Or.inr rfl))) (fun _ _ _ _ _ => pts_nil) (fun _ _ _ _ _ => (C8.pe_c c_law_spring hr (by decide) rfl (pa_cons (pv 0) (pa_cons (pv 1) pa_nil))))))))), ?_⟩
    obtain ⟨m, hm, hm1, hm2⟩ : ∃ m : Nat, (if (if (((ns.map V.int).length : Nat) : Int) < 63 then (((ns.map V.int).length : Nat) : Int) else 63) > 1 then (if (((ns.map V.int).length : Nat) : Int) < 63 then (((ns.map V.int).length : Nat) : Int) else 63) else 1) = (m : Int) ∧ 1 ≤ m ∧ m ≤ 63 := by
      rw [List.length_map]
      split <;> split <;> first | exact ⟨ns.length, by omega, by omega, by omega⟩ | exact ⟨1, by omega, by omega, by omega⟩ | exact ⟨63, by omega, by omega, by omega⟩
    refine ⟨_, rfl, a, _, rfl, .inl hS, _, _, rfl, _, _, rfl, (m : Int), (by rw [hm]), by omega, by omega, fun D hD => ?_⟩
    refine lc_range (lo := 0) (n := (m : Int).toNat) (fun i H' => ∃ as : List Addr, as.length = i ∧ Same H H' ∧ H' D = some (.lst (as.map V.ref)) ∧ ∀ x ∈ as, H x = none ∧ SpringAt H' x 1) ⟨[], rfl, same_new hD, upd_same, fun x hx => by cases hx⟩ ?_ ?_
    · rintro i H2 hi ⟨as, hl2, s2, hD2, hs⟩
      refine ⟨rfl, ?_⟩
      refine ⟨_, rfl, _, rfl, a, ns, _, rfl, s2.seq hS, by omega, by omega, fun H3 p hp s3 hsp => ?_⟩
      have hpD : p ≠ D := (ne_of_none hD2 hp).symm
      refine ⟨_, s3 _ _ hD2, ?_, as ++ [p], by rw [List.length_append, hl2]; rfl, same_upd (s2.trans s3) hD, by rw [upd_same, List.map_append]; rfl, ?_⟩
      · rw [List.length_map, hl2]
        exact Nat.lt_of_lt_of_le hi (by show (m : Int).toNat ≤ sizeLine; have : m ≤ sizeLine := Nat.le_trans hm2 (by decide); omega)
      · intro x hx
        rcases List.mem_append.mp hx with hx | hx
        · obtain ⟨h1, h2⟩ := hs x hx
          exact ⟨h1, (h2.same s3).put (h2.ne hD2 (refs_no as))⟩
        · obtain rfl := List.mem_singleton.mp hx
          exact ⟨s2.free hp, hsp.put hpD⟩
    · rintro H2 ⟨as, hl2, s2, hD2, hs⟩
      refine q _ D as hD s2 hD2 (fun z => ?_) (by omega) hs
      rw [z] at hl2
      have : (0 : Nat) = (m : Int).toNat := hl2
      omega
theorem c_law_springs (T : Txt K mg) : C8.Cal P w K mg base 2 "_law_springs" (sp_law_springs K) [] := by
  obtain ⟨fd, F⟩ := T.f_law_springs
  exact ⟨_, fd, _, _, ok_law_springs T F, T.g_law_springs, F.kp, F.bindsN (fun _ _ _ _ _ _ us hl => match us, hl with | [_], _ => rfl), .nil⟩
def sp_law_rule (K : PySem.W.Frag) : Sp := fun vs H Q _ => ∃ (a b : Addr) (n : Nat) (ws : List Str) (most : Nat), vs = [.ref a, .ref b, .int (most : Int)] ∧ SpringAt H a n ∧ SqL K H b (ws.map V.str) ∧ ws ≠ [] ∧ ws.length ≤ 100 ∧ most ≤ 100 ∧ n < 2 ^ 99 ∧
  ∀ H' p r, But [a] H H' → SpringAt H' a (n + most + 1) → RuleAt K H' p r → r.length ≤ most → (∀ x ∈ r, x ∈ ws) → Q (.ref p) H'
theorem lstS {K : PySem.W.Frag} {H H' : Hp} {a b : Addr} {n : Nat} {xs : List V} (s : But [a] H H') (h : SpringAt H a n) (t : SqL K H b xs) (no : ∀ i r, HO.lst xs ≠ .lst (.int i :: r)) : SqL K H' b xs := by
  obtain ⟨w0, w1, w2, h1, _⟩ := h
  rcases t with (t | ⟨o, t⟩) | t
  · exact .inl (.inl (s _ _ (by simpa using (ne_of t h1 (fun z => no _ _ z))) t))
  · exact .inl (.inr ⟨o, s _ _ (by simpa using (ne_of t h1 (fun z => by cases z))) t⟩)
  · exact .inr t
/-- a book is made of a number and a list of eight rules -/
def sp_law_made (K : PySem.W.Frag) : Sp := fun vs H Q _ => ∃ (b : Addr) (d : Int) (as : List Addr) (rs : List RuleL), vs = [.int d, .ref b] ∧ SqL K H b (as.map V.ref) ∧ 1 ≤ d ∧ d ≤ 30 ∧ Paired (RuleAt K H) as rs ∧ rs.length = 8 ∧ (∀ r ∈ rs, GoodRule r) ∧
  ∀ H' p, H p = none → Same H H' → BookAt K H' p d rs → Q (.ref p) H'
set_option maxHeartbeats 2000000 in
theorem ok_law_made (T : Txt K mg) {fd : FuncData} (F : FunD K d_law_made.name d_law_made.qual d_law_made.params d_law_made.body d_law_made.scope (d_law_made.dvs K) (d_law_made.kws K) (He.fAd K d_law_made.at_) fd) : FnOk P w K mg base C8.CX0 5 (He.fAd K d_law_made.at_) fd ["limit", "rules"] (sp_law_made K) := by
  have c_Book_init := c_Book_init (P := P) (w := w) (base := base) T
  refine F.ok sc_law_made (fun vs H Q E h => ?_) (fun cdv A outer s H vs Q E hr h => ?_)
  · obtain ⟨b, d, as, rs, rfl, _⟩ := h
    rfl
  · have hu := L2.hu_of hr
    obtain ⟨b, d, as, rs, rfl, hb, h1, h2, h3, h4, h5, q⟩ := h
    refine ⟨_, (PSs.nox ((pss_one (ps_ret (C8.pe_mk c_Book_init hr (by decide) rfl (pa_cons (pv 0) (pa_cons (pe_ix (My.ix_listK (K := K) rfl) (pv 1) pe_int (fun _ _ => rfl)) (pa_cons (pe_ix (My.ix_listK (K := K) rfl) (pv 1) pe_int (fun _ _ => rfl)) (pa_cons (pe_ix (My.ix_listK (K := K) rfl) (pv 1) pe_int (fun _ _ => rfl)) (pa_cons (pe_ix (My.ix_listK (K := K) rfl) (pv 1) pe_int (fun _ _ => rfl)) (pa_cons (pe_ix (My.ix_listK (K := K) rfl) (pv 1) pe_int (fun _ _ => rfl)) (pa_cons (pe_ix (My.ix_listK (K := K) rfl) (pv 1) pe_int (fun _ _ => rfl)) (pa_cons (pe_ix (My.ix_listK (K := K) rfl) (pv 1) pe_int (fun _ _ => rfl)) (pa_cons (pe_ix (My.ix_listK (K := K) rfl) (pv 1) pe_int (fun _ _ => rfl)) pa_nil)))))))))))))), ?_⟩
    obtain ⟨a0, a1, a2, a3, a4, a5, a6, a7, rfl⟩ := len8 h3 h4
    refine ⟨_, rfl, ?_⟩
    iterate 8 refine ⟨_, rfl, b, _, _, _, rfl, rfl, hb, rfl, ?_⟩
    intro x dx nx ndx nex
    have s0 : Same H (upd (upd H dx (.own x)) x (.ins (He.ga K "Book") dx [])) := (same_new ndx).trans (same_upd (Same.refl _) (by rw [upd_ne nex.symm]; exact nx))
    refine ⟨x, dx, d, _, rs, rfl, upd_same, h1, h2, paired_map (fun a r _ hr => same_tup s0 hr) h3, h4, h5, fun H' t bt hx ht => ⟨rfl, ?_⟩⟩
    have s1 : Same H H' := fun c o e => bt c o (by simpa using ne_of_none e nx) (s0 _ _ e)
    exact q _ x nx s1 ⟨dx, t, _, hx, SqT.of ht, paired_map (fun a r _ hr => same_tup s1 hr) h3, h4⟩
theorem c_law_made (T : Txt K mg) : C8.Cal P w K mg base 5 "_law_made" (sp_law_made K) [] := by
  obtain ⟨fd, F⟩ := T.f_law_made
  exact ⟨_, fd, _, _, ok_law_made T F, T.g_law_made, F.kp, F.bindsN (fun _ _ _ _ _ _ us hl => match us, hl with | [_, _], _ => rfl), .nil⟩
end
end K25

namespace K25
open PySem PySem.Spec PyProof.Rows L2 My
/-! ### deeds -/
inductive Deed where
  | bring (l s : Bool) | code (p : Int) (t s : Bool) | pass | day | power
  deriving DecidableEq
def Deed.w : Deed → Str
  | .bring _ _ => "bring"
  | .code _ _ _ => "code"
  | .pass => "pass"
  | .day => "day"
  | .power => "power"
def Deed.vs : Deed → List V
  | .bring l s => [.str "bring", .bl l, .bl s]
  | .code p t s => [.str "code", .int p, .bl t, .bl s]
  | .pass => [.str "pass"]
  | .day => [.str "day"]
  | .power => [.str "power"]
def Deed.Ok : Deed → Prop
  | .code p _ _ => 1 ≤ p ∧ p ≤ 1000000000
  | _ => True
def DeedAt (K : PySem.W.Frag) (H : Hp) (v : V) (d : Deed) : Prop := ∃ a, v = .ref a ∧ SqT K H a d.vs
def isBr : Deed → Bool
  | .bring _ _ => true
  | _ => false
def brs (l : List Deed) : Nat := l.countP isBr
def Playable (ds : List Deed) : Prop := ds.length ≤ 100000000 ∧ ∀ i p t s, ds[i]? = some (.code p t s) → 1 ≤ p ∧ p ≤ (brs (ds.take i) : Int)
theorem brs_le (l : List Deed) : brs l ≤ l.length := List.countP_le_length
theorem Playable.ok {ds : List Deed} (h : Playable ds) : ∀ d ∈ ds, d.Ok := by
  intro d hd
  obtain ⟨i, hi⟩ := List.mem_iff_getElem?.mp hd
  cases d with
  | code p t s =>
    obtain ⟨h1, h2⟩ := h.2 i p t s hi
    have h3 := brs_le (ds.take i)
    have h4 : (ds.take i).length ≤ ds.length := by rw [List.length_take]; omega
    have h5 := h.1
    exact ⟨h1, by omega⟩
  | _ => trivial
theorem take_more {α : Type} {l : List α} {i : Nat} {x : α} (h : l[i]? = some x) : l.take (i + 1) = l.take i ++ [x] := by
  rw [List.take_add_one, h]
  rfl
theorem brs_more {l : List Deed} {i : Nat} {d : Deed} (h : l[i]? = some d) : brs (l.take (i + 1)) = brs (l.take i) + (if isBr d then 1 else 0) := by
  unfold brs
  rw [take_more h, List.countP_append, List.countP_singleton]
section
variable {P : Program} {w : World} {K : PySem.W.Frag} {mg : Str → Option Value} {base : Heap}
def sp_are_truths (K : PySem.W.Frag) : Sp := fun vs H Q _ => ∃ (a : Addr) (bs : List Bool), vs = [.ref a] ∧ SqT K H a (bs.map V.bl) ∧ bs.length ≤ 100 ∧ ∀ H', Same H H' → Q (.bl true) H'
set_option maxHeartbeats 2000000 in
theorem ok_are_truths (T : Txt K mg) {fd : FuncData} (F : FunD K d_are_truths.name d_are_truths.qual d_are_truths.params d_are_truths.body d_are_truths.scope (d_are_truths.dvs K) (d_are_truths.kws K) (He.fAd K d_are_truths.at_) fd) : FnOk P w K mg base C8.CX0 2 (He.fAd K d_are_truths.at_) fd ["values"] (sp_are_truths K) := by
  have c_is_truth := c_is_truth (P := P) (w := w) (base := base) T
  refine F.ok sc_are_truths (fun vs H Q E h => ?_) (fun cdv A outer s H vs Q E hr h => ?_)
  · obtain ⟨a, bs, rfl, _⟩ := h
    rfl
  · have hu := L2.hu_of hr
    obtain ⟨a, bs, rfl, hS, hl, q⟩ := h
    refine ⟨_, (PSs.nox ((pss_one (ps_ret (pe_callB (My.allK (K := K) rfl rfl) (by rfl) T.all (by decide +kernel) (pa_cons (pe_lc (own := [("value", 1)]) (g := (gName 1)) (tt := tYes) (by rfl) sc_are_truths.nd (My.pi_tupK (K := K) rfl (pv 0)) (blkOk_by (N := N_are_truths) (sc := defScope s_are_truths) (by decide +kernel)) (fun _ _ _ _ _ => (pg_name (i := 1) sc_are_truths.nd rfl (by first | exact Or.inl rfl | exact Or.inr rfl))) (fun _ _ _ _ _ => pts_nil) (fun _ _ _ _ _ => (C8.pe_c c_is_truth hr (by decide) rfl (pa_cons (pv 1) pa_nil)))) pa_nil)))))), ?_⟩
    refine ⟨_, rfl, a, rfl, ⟨_, hS⟩, fun D hD => lc_tup (K := K) (a := a) (xs := bs.map V.bl) (fun i H' => Same H H' ∧ H' D = some (.lst ((List.replicate i true).map V.bl))) ⟨same_new hD, upd_same⟩ (fun i H' _ p => same_tup p.1 hS) ?_ ?_⟩
    · rintro i y H2 hi ⟨s2, hD2⟩
      obtain ⟨z, hz, rfl⟩ := map_get hi
      have hlt : i < bs.length := (List.getElem?_eq_some_iff.mp hz).1
      refine ⟨rfl, ?_⟩
      refine ⟨_, rfl, z, rfl, _, hD2, ?_, same_upd s2 hD, ?_⟩
      · rw [List.length_map, List.length_replicate]
        exact Nat.lt_of_lt_of_le (show i < 100 by omega) (by decide)
      · rw [upd_same, List.replicate_succ', List.map_append]
        rfl
    · rintro H2 ⟨s2, hD2⟩
      refine ⟨D, _, rfl, SqL.of hD2, ?_⟩
      have e2 : (List.replicate (bs.map V.bl).length true).all id = true := List.all_eq_true.mpr fun x hx => (List.mem_replicate.mp hx).2
      rw [e2]
      exact q _ s2
theorem c_are_truths (T : Txt K mg) : C8.Cal P w K mg base 2 "are_truths" (sp_are_truths K) [] := by
  obtain ⟨fd, F⟩ := T.f_are_truths
  exact ⟨_, fd, _, _, ok_are_truths T F, T.g_are_truths, F.kp, F.bindsN (fun _ _ _ _ _ _ us hl => match us, hl with | [_], _ => rfl), .nil⟩
def sp_is_deed (K : PySem.W.Frag) : Sp := fun vs H Q _ => ∃ (v : V) (d : Deed), vs = [v] ∧ DeedAt K H v d ∧ d.Ok ∧ ∀ H', Same H H' → Q (.bl true) H'
set_option maxHeartbeats 2000000 in
theorem ok_is_deed (T : Txt K mg) {fd : FuncData} (F : FunD K d_is_deed.name d_is_deed.qual d_is_deed.params d_is_deed.body d_is_deed.scope (d_is_deed.dvs K) (d_is_deed.kws K) (He.fAd K d_is_deed.at_) fd) : FnOk P w K mg base C8.CX0 3 (He.fAd K d_is_deed.at_) fd ["value"] (sp_is_deed K) := by
  obtain ⟨t_MOST_PARCEL, g_MOST_PARCEL⟩ := T.g_MOST_PARCEL
  have c_are_truths := c_are_truths (P := P) (w := w) (base := base) T
  have c_is_integer_within := c_is_integer_within (P := P) (w := w) (base := base) T
  refine F.ok sc_is_deed (fun vs H Q E h => ?_) (fun cdv A outer s H vs Q E hr h => ?_)
  · obtain ⟨v, d, rfl, _⟩ := h
    rfl
  · have hu := L2.hu_of hr
    obtain ⟨v, d, rfl, ⟨a, rfl, hS⟩, hok, q⟩ := h
    refine ⟨_, (PSs.nox ((pss_cons (ps_if (PW.pt (pw_or (pt_not (pt_val (pe_callB (My.isiK (K := K) rfl) (by rfl) T.isinstance (by decide +kernel) (pa_cons (pv 0) (pa_cons (pe_bltn (v := .ty "tuple") (u := .type "tuple") rfl T.tuple (by decide +kernel) rfl) pa_nil))))) (pw_or (pt_cmpR op_eq (pe_callB (My.len_seqK (K := K) rfl) (by rfl) T.len (by decide +kernel) (pa_cons (pv 0) pa_nil)) pe_int (nomark _)) (pw_or1 (pt_not (pt_val (pe_callB (My.isiK (K := K) rfl) (by rfl) T.isinstance (by decide +kernel) (pa_cons (pe_ix (My.ix_tupK (K := K) rfl) (pv 0) pe_int (fun _ _ => rfl)) (pa_cons (pe_bltn (v := .ty "str") (u := .type "str") rfl T.str (by decide +kernel) rfl) pa_nil)))))))))
  (pss_one (ps_ret pe_bl))
  pss_nil)
  (pss_cons (ps_set (i := 1) sc_is_deed.nd rfl (by first | exact Or.inl rfl | exact Or.inr rfl) (pe_ix (My.ix_tupK (K := K) rfl) (pv 0) pe_int (fun _ _ => rfl)))
  (pss_cons (ps_if (pt_cmpR op_eq (pv 1) pe_str (nomark _))
  (pss_one (ps_ret (pe_and (pe_cmpR op_eq (pe_callB (My.len_seqK (K := K) rfl) (by rfl) T.len (by decide +kernel) (pa_cons (pv 0) pa_nil)) pe_int (nomark _)) (pe_one (C8.pe_c c_are_truths hr (by decide) rfl (pa_cons (pe_slice (My.sl_tupAK (K := K) rfl) (pv 0) (po_some pe_int) po_none) pa_nil))))))
  pss_nil)
  (pss_cons (ps_if (pt_cmpR op_eq (pv 1) pe_str (nomark _))
  (pss_one (ps_ret (pe_and (pe_cmpR op_eq (pe_callB (My.len_seqK (K := K) rfl) (by rfl) T.len (by decide +kernel) (pa_cons (pv 0) pa_nil)) pe_int (nomark _)) (pe_and (C8.pe_c c_is_integer_within hr (by decide) rfl (pa_cons (pe_ix (My.ix_tupK (K := K) rfl) (pv 0) pe_int (fun _ _ => rfl)) (pa_cons pe_int (pa_cons (pe_glob (v := .int 1000000000) rfl g_MOST_PARCEL ⟨_, rfl⟩) pa_nil)))) (pe_one (C8.pe_c c_are_truths hr (by decide) rfl (pa_cons (pe_slice (My.sl_tupAK (K := K) rfl) (pv 0) (po_some pe_int) po_none) pa_nil)))))))
  pss_nil)
  (pss_one (ps_ret (pe_and (pe_cmpR op_eq (pe_callB (My.len_seqK (K := K) rfl) (by rfl) T.len (by decide +kernel) (pa_cons (pv 0) pa_nil)) pe_int (nomark _)) (pe_one (pe_cmpR (My.in_seqK (K := K) rfl) (pv 1) (pe_glob (v := .ref (He.ga K "SINGLE_WORDS")) rfl T.g_SINGLE_WORDS rfl) (by rfl)))))))))))), ?_⟩
    have len : ∀ k : Int, decide (V.int ((d.vs.length : Nat) : Int) = V.int k) = decide ((d.vs.length : Int) = k) := fun k => decide_eq_decide.mpr ⟨fun z => V.int.inj z, fun z => congrArg V.int z⟩
    have w0 : atI d.vs 0 = some (.str d.w) := by cases d <;> rfl
    have l0 : decide (V.int ((d.vs.length : Nat) : Int) = V.int 0) = false := by rw [len]; cases d <;> rfl
    refine ⟨_, rfl, _, _, _, _, _, rfl, .ty "tuple", tyx_tup hS, L2.kit_ty (by decide +kernel), true, rfl, ?_⟩
    refine ⟨_, rfl, a, _, rfl, .inr hS, rfl, _, rfl, ?_⟩
    rw [l0]
    refine ⟨_, rfl, a, _, _, _, rfl, rfl, hS, w0, _, _, _, _, _, rfl, .ty "str", .base (.str d.w), L2.kit_ty (by decide +kernel), true, rfl, ?_⟩
    refine ⟨_, rfl, a, _, _, _, rfl, rfl, hS, w0, ?_⟩
    refine ⟨_, rfl, rfl, _, rfl, ?_⟩
    cases d with
    | bring l s =>
      refine ⟨_, rfl, a, _, rfl, .inr hS, rfl, _, rfl, ?_⟩
      refine ⟨_, rfl, 1, rfl, a, _, rfl, hS, fun z => absurd (show HT.sIx 3 0 (some 1) = 0 from z.1) (by decide), fun _ p hp => ?_⟩
      exact ⟨p, [l, s], rfl, SqT.of upd_same, (by show 2 ≤ 100; decide), fun H' s' => q _ ((same_new hp).trans s')⟩
    | code p t s =>
      refine ⟨_, rfl, rfl, _, rfl, ?_⟩
      refine ⟨_, rfl, a, _, rfl, .inr hS, rfl, _, rfl, ?_⟩
      refine ⟨_, rfl, a, _, 1, _, rfl, rfl, hS, rfl, p, 1, 1000000000, rfl, true, ?_, ?_⟩
      · rw [decide_eq_true hok.1, decide_eq_true hok.2]
        rfl
      refine ⟨_, rfl, 2, rfl, a, _, rfl, hS, fun z => absurd (show HT.sIx 4 0 (some 2) = 0 from z.1) (by decide), fun _ p2 hp => ?_⟩
      exact ⟨p2, [t, s], rfl, SqT.of upd_same, (by show 2 ≤ 100; decide), fun H' s' => q _ ((same_new hp).trans s')⟩
    | pass =>
      refine ⟨_, rfl, rfl, _, rfl, ?_⟩
      refine ⟨_, rfl, a, _, rfl, .inr hS, rfl, _, rfl, ?_⟩
      exact ⟨_, rfl, _, _, rfl, .inr (T.tup_SINGLE_WORDS _), rfl, rfl, q _ (Same.refl _)⟩
    | day =>
      refine ⟨_, rfl, rfl, _, rfl, ?_⟩
      refine ⟨_, rfl, a, _, rfl, .inr hS, rfl, _, rfl, ?_⟩
      exact ⟨_, rfl, _, _, rfl, .inr (T.tup_SINGLE_WORDS _), rfl, rfl, q _ (Same.refl _)⟩
    | power =>
      refine ⟨_, rfl, rfl, _, rfl, ?_⟩
      refine ⟨_, rfl, a, _, rfl, .inr hS, rfl, _, rfl, ?_⟩
      exact ⟨_, rfl, _, _, rfl, .inr (T.tup_SINGLE_WORDS _), rfl, rfl, q _ (Same.refl _)⟩
theorem c_is_deed (T : Txt K mg) : C8.Cal P w K mg base 3 "is_deed" (sp_is_deed K) [] := by
  obtain ⟨fd, F⟩ := T.f_is_deed
  exact ⟨_, fd, _, _, ok_is_deed T F, T.g_is_deed, F.kp, F.bindsN (fun _ _ _ _ _ _ us hl => match us, hl with | [_], _ => rfl), .nil⟩
def DeedsAt (K : PySem.W.Frag) (H : Hp) (xs : List V) (ds : List Deed) : Prop := Paired (DeedAt K H) xs ds
theorem DeedsAt.same {K : PySem.W.Frag} {H H' : Hp} {xs : List V} {ds : List Deed} (s : Same H H') (h : DeedsAt K H xs ds) : DeedsAt K H' xs ds :=
  paired_map (fun v d _ hd => by
    obtain ⟨a, e, h2⟩ := hd
    exact ⟨a, e, same_tup s h2⟩) h
theorem paired_at {α β : Type} {F : α → β → Prop} : ∀ {l : List α} {m : List β} {i : Nat} {a : α}, Paired F l m → l[i]? = some a → ∃ b, m[i]? = some b ∧ F a b
  | _, _, _, _, .nil, e => by simp at e
  | _, _, 0, _, .cons r _, e => by simp at e; subst e; exact ⟨_, rfl, r⟩
  | _, _, i + 1, _, .cons _ t, e => by
    obtain ⟨a, h1, h2⟩ := paired_at t (by simpa using e)
    exact ⟨a, by simpa using h1, h2⟩
def sp_check_are_deeds (K : PySem.W.Frag) : Sp := fun vs H Q _ => ∃ (a : Addr) (xs : List V) (ds : List Deed), vs = [.ref a] ∧ SqL K H a xs ∧ DeedsAt K H xs ds ∧ (∀ d ∈ ds, d.Ok) ∧ ∀ H', Same H H' → Q .non H'
set_option maxHeartbeats 2000000 in
theorem ok_check_are_deeds (T : Txt K mg) {fd : FuncData} (F : FunD K d_check_are_deeds.name d_check_are_deeds.qual d_check_are_deeds.params d_check_are_deeds.body d_check_are_deeds.scope (d_check_are_deeds.dvs K) (d_check_are_deeds.kws K) (He.fAd K d_check_are_deeds.at_) fd) : FnOk P w K mg base C8.CX0 4 (He.fAd K d_check_are_deeds.at_) fd ["deeds"] (sp_check_are_deeds K) := by
  have c_is_deed := c_is_deed (P := P) (w := w) (base := base) T
  refine F.ok sc_check_are_deeds (fun vs H Q E h => ?_) (fun cdv A outer s H vs Q E hr h => ?_)
  · obtain ⟨a, xs, ds, rfl, _⟩ := h
    rfl
  · have hu := L2.hu_of hr
    obtain ⟨a, xs, ds, rfl, hS, hD, hok, q⟩ := h
    refine ⟨_, (PSs.nox ((pss_cons (ps_if (pt_not (pt_val (pe_callB (My.isiK (K := K) rfl) (by rfl) T.isinstance (by decide +kernel) (pa_cons (pv 0) (pa_cons (pe_bltn (v := .ty "list") (u := .type "list") rfl T.list (by decide +kernel) rfl) pa_nil)))))
  (pss_one ps_never)
  pss_nil)
  (pss_one (ps_for PassesOwn.never rfl (pi_enum (by rfl) T.enumerate (pa_cons (pv 0) pa_nil)) (My.pg_tupK (K := K) (n := 2) rfl rfl (pgs_cons (pg_name (i := 1) sc_check_are_deeds.nd rfl (by first | exact Or.inl rfl | exact Or.inr rfl)) (pgs_cons (pg_name (i := 2) sc_check_are_deeds.nd rfl (by first | exact Or.inl rfl | exact Or.inr rfl)) pgs_nil)))
  (pss_one (ps_if (pt_not (pt_val (C8.pe_c c_is_deed hr (by decide) rfl (pa_cons (pv 2) pa_nil))))
  (pss_one ps_never)
  pss_nil))))))), ?_⟩
    refine ⟨_, rfl, _, _, _, _, _, rfl, .ty "list", tyx_lst hS, L2.kit_ty (by decide +kernel), true, rfl, ?_⟩
    refine ⟨_, rfl, a, xs, rfl, hS, ?_⟩
    refine for_it (walk_enum (xs := xs)) (fun i σ H' => ∃ u v, σ = [some (.ref a), u, v] ∧ Same H H') ⟨_, _, rfl, Same.refl _⟩ (fun i σ H' _ ⟨_, _, _, s⟩ => s.seq hS) ?_ ?_
    · rintro i x σ H2 H3 hi ⟨u, v, rfl, s2⟩ ⟨t, x1, y, rfl, ht, rfl, e1, hy⟩
      cases e1
      obtain ⟨d, hd, hat⟩ := paired_at hD hy
      have s3 := s2.trans (same_new (o := .tup [.int (i : Nat), y]) ht)
      refine ⟨t, _, rfl, SqT.of upd_same, rfl, _, _, rfl, _, _, rfl, rfl, ?_⟩
      obtain ⟨b, rfl, hb⟩ := hat
      refine ⟨_, rfl, _, d, rfl, ⟨b, rfl, same_tup s3 hb⟩, hok d (List.mem_of_getElem? hd), fun H4 s4 => ?_⟩
      exact ⟨true, rfl, _, _, rfl, s3.trans s4⟩
    · rintro σ H2 ⟨u, v, rfl, s2⟩
      exact q _ s2
theorem c_check_are_deeds (T : Txt K mg) : C8.Cal P w K mg base 4 "check_are_deeds" (sp_check_are_deeds K) [] := by
  obtain ⟨fd, F⟩ := T.f_check_are_deeds
  exact ⟨_, fd, _, _, ok_check_are_deeds T F, T.g_check_are_deeds, F.kp, F.bindsN (fun _ _ _ _ _ _ us hl => match us, hl with | [_], _ => rfl), .nil⟩
def sp_check_playable (K : PySem.W.Frag) : Sp := fun vs H Q _ => ∃ (a : Addr) (xs : List V) (ds : List Deed), vs = [.ref a] ∧ SqL K H a xs ∧ DeedsAt K H xs ds ∧ Playable ds ∧ ∀ H', Same H H' → Q .non H'
set_option maxHeartbeats 2000000 in
theorem ok_check_playable (T : Txt K mg) {fd : FuncData} (F : FunD K d_check_playable.name d_check_playable.qual d_check_playable.params d_check_playable.body d_check_playable.scope (d_check_playable.dvs K) (d_check_playable.kws K) (He.fAd K d_check_playable.at_) fd) : FnOk P w K mg base C8.CX0 5 (He.fAd K d_check_playable.at_) fd ["deeds"] (sp_check_playable K) := by
  have c_check_are_deeds := c_check_are_deeds (P := P) (w := w) (base := base) T
  refine F.ok sc_check_playable (fun vs H Q E h => ?_) (fun cdv A outer s H vs Q E hr h => ?_)
  · obtain ⟨a, xs, ds, rfl, _⟩ := h
    rfl
  · have hu := L2.hu_of hr
    obtain ⟨a, xs, ds, rfl, hS, hD, hok, q⟩ := h
    refine ⟨_, (PSs.nox ((pss_cons (ps_expr (C8.pe_c c_check_are_deeds hr (by decide) rfl (pa_cons (pv 0) pa_nil)))
  (pss_cons (ps_set (i := 1) sc_check_playable.nd rfl (by first | exact Or.inl rfl | exact Or.inr rfl) pe_int)
  (pss_one (ps_for PassesOwn.never rfl (pi_enum (by rfl) T.enumerate (pa_cons (pv 0) pa_nil)) (My.pg_tupK (K := K) (n := 2) rfl rfl (pgs_cons (pg_name (i := 2) sc_check_playable.nd rfl (by first | exact Or.inl rfl | exact Or.inr rfl)) (pgs_cons (pg_name (i := 3) sc_check_playable.nd rfl (by first | exact Or.inl rfl | exact Or.inr rfl)) pgs_nil)))
  (pss_one (ps_if (pt_cmpR op_eq (pe_ix (My.ix_tupK (K := K) rfl) (pv 3) pe_int (fun _ _ => rfl)) pe_str (nomark _))
  (pss_one (ps_aug (i := 1) sc_check_playable.nd rfl (by first | exact Or.inl rfl | exact Or.inr rfl) pe_int ip_add))
  (pss_one (ps_if (PW.pt (pw_and (pt_cmpR op_eq (pe_ix (My.ix_tupK (K := K) rfl) (pv 3) pe_int (fun _ _ => rfl)) pe_str (nomark _)) (pw_and1 (pt_cmpR op_gt (pe_ix (My.ix_tupK (K := K) rfl) (pv 3) pe_int (fun _ _ => rfl)) (pv 1) (nomark _)))))
  (pss_one ps_never)
  pss_nil)))))))))), ?_⟩
    refine ⟨_, rfl, a, xs, ds, rfl, hS, hD, hok.ok, fun H1 s1 => ?_⟩
    refine ⟨_, rfl, a, xs, rfl, s1.seq hS, ?_⟩
    refine for_it (walk_enum (xs := xs)) (fun i σ H' => ∃ u v, σ = [some (.ref a), some (.int (brs (ds.take i) : Nat)), u, v] ∧ Same H H') ⟨_, _, rfl, s1⟩ (fun i σ H' _ ⟨_, _, _, s⟩ => s.seq hS) ?_ ?_
    · rintro i x σ H2 H3 hi ⟨u, v, rfl, s2⟩ ⟨t, x1, y, rfl, ht, rfl, e1, hy⟩
      cases e1
      obtain ⟨d, hd, hat⟩ := paired_at hD hy
      have s3 := s2.trans (same_new (o := .tup [.int (i : Nat), y]) ht)
      refine ⟨t, _, rfl, SqT.of upd_same, rfl, _, _, rfl, _, _, rfl, rfl, ?_⟩
      obtain ⟨b, rfl, hb⟩ := hat
      have hb3 := same_tup s3 hb
      have w0 : atI d.vs 0 = some (.str d.w) := by cases d <;> rfl
      refine ⟨_, rfl, b, _, _, _, rfl, rfl, hb3, w0, rfl, _, rfl, ?_⟩
      have more := brs_more hd
      cases d with
      | bring l s =>
        refine ⟨_, rfl, _, _, rfl, rfl, some (.int (i : Nat)), some (.ref b), ?_, s3⟩
        rw [more]
        rfl
      | code p t1 s =>
        refine ⟨_, rfl, b, _, _, _, rfl, rfl, hb3, w0, rfl, _, rfl, ?_⟩
        refine ⟨_, rfl, b, _, 1, _, rfl, rfl, hb3, rfl, _, rfl, _, _, rfl, rfl, _, rfl, ?_⟩
        have hle := (hok.2 i p t1 s hd).2
        rw [show decide (((brs (ds.take i) : Nat) : Int) < p) = false from decide_eq_false (by omega)]
        refine ⟨some (.int (i : Nat)), some (.ref b), ?_, s3⟩
        rw [more]
        rfl
      | pass =>
        refine ⟨_, rfl, b, _, _, _, rfl, rfl, hb3, w0, rfl, _, rfl, ?_⟩
        exact ⟨some (.int (i : Nat)), some (.ref b), by rw [more] <;> rfl, s3⟩
      | day =>
        refine ⟨_, rfl, b, _, _, _, rfl, rfl, hb3, w0, rfl, _, rfl, ?_⟩
        exact ⟨some (.int (i : Nat)), some (.ref b), by rw [more] <;> rfl, s3⟩
      | power =>
        refine ⟨_, rfl, b, _, _, _, rfl, rfl, hb3, w0, rfl, _, rfl, ?_⟩
        exact ⟨some (.int (i : Nat)), some (.ref b), by rw [more] <;> rfl, s3⟩
    · rintro σ H2 ⟨u, v, rfl, s2⟩
      exact q _ s2
theorem c_check_playable (T : Txt K mg) : C8.Cal P w K mg base 5 "check_playable" (sp_check_playable K) [] := by
  obtain ⟨fd, F⟩ := T.f_check_playable
  exact ⟨_, fd, _, _, ok_check_playable T F, T.g_check_playable, F.kp, F.bindsN (fun _ _ _ _ _ _ us hl => match us, hl with | [_], _ => rfl), .nil⟩
end
end K25

namespace K25
open PySem PySem.Spec PyProof.Rows L2 My
/-! ### the box: what it is, what a deed does to it -/
structure BoxS where
  ajar : Bool
  inside : List Int
  tf : Str
  valid : List Int
  age : Option Int
  last : Option Int
  sent : List Int
  served : List Int
structure ToldS where
  letters : List Int
  opened : Bool
  got : List Int
  wrongs : List Str
  moments : List Str
def oV : Option Int → V
  | none => .non
  | some i => .int i
def kvT (l : List Int) : List (Key × V) := l.map fun i => (Sum.inl i, V.bl true)
def bxf (S : BoxS) (li dv ds dr : Addr) : List (Str × V) :=
  [("ajar", .bl S.ajar), ("inside", .ref li), ("taken_for", .str S.tf), ("valid", .ref dv), ("age", oV S.age), ("last", oV S.last), ("sent", .ref ds), ("served", .ref dr)]
def tdf (T : ToldS) (yb : Bool) (ll lg lw lm : Addr) : List (Str × V) := [("letters", .ref ll), ("opened", .bl T.opened), ("got", .ref lg), ("lays", .bl yb), ("wrongs", .ref lw), ("moments", .ref lm)]
theorem nd_ne {α : Type} {l : List α} {a b : α} (h : l.Nodup) {i j : Nat} (hi : l[i]? = some a) (hj : l[j]? = some b) (ne : i ≠ j) : a ≠ b := by
  intro e
  subst e
  exact ne (L2.nd_ix h hi hj)
theorem nd_put {α : Type} {l : List α} {p : α} {i : Nat} (h : l.Nodup) (hp : p ∉ l) : (l.set i p).Nodup := by
  induction l generalizing i with
  | nil => simp
  | cons a r ih =>
    rw [List.nodup_cons] at h
    simp only [List.mem_cons, not_or] at hp
    cases i with
    | zero =>
      rw [List.set_cons_zero, List.nodup_cons]
      exact ⟨hp.2, h.2⟩
    | succ i =>
      rw [List.set_cons_succ, List.nodup_cons]
      refine ⟨fun hm => ?_, ih h.2 hp.2⟩
      rcases List.mem_or_eq_of_mem_set hm with z | z
      · exact h.1 z
      · exact hp.1 z.symm
structure BT (K : PySem.W.Frag) (H0 H : Hp) (b dx li dv ds dr : Addr) (S : BoxS) (t dt : Addr) (yb : Bool) (ll lg lw lm : Addr) (T : ToldS) : Prop where
  same : Same H0 H
  nd : [b, li, dv, ds, dr, t, ll, lg, lw, lm].Nodup
  new : ∀ a ∈ [b, li, dv, ds, dr, t, ll, lg, lw, lm], H0 a = none
  hb : H b = some (.ins (He.ga K "Box") dx (bxf S li dv ds dr))
  hli : H li = some (.lst (S.inside.map V.int))
  hdv : H dv = some (.dK (kvT S.valid))
  hds : H ds = some (.dK (kvT S.sent))
  hdr : H dr = some (.dK (kvT S.served))
  ht : H t = some (.ins (He.ga K "Told") dt (tdf T yb ll lg lw lm))
  hll : H ll = some (.lst (T.letters.map V.int))
  hlg : H lg = some (.lst (T.got.map V.int))
  hlw : H lw = some (.lst (T.wrongs.map V.str))
  hlm : H lm = some (.lst (T.moments.map V.str))
section
variable {K : PySem.W.Frag} {H0 H : Hp} {b dx li dv ds dr : Addr} {S S' : BoxS} {t dt : Addr} {yb : Bool} {ll lg lw lm : Addr} {T T' : ToldS}
theorem BT.set_b (h : BT K H0 H b dx li dv ds dr S t dt yb ll lg lw lm T) (e1 : S'.inside = S.inside) (e2 : S'.valid = S.valid) (e3 : S'.sent = S.sent) (e4 : S'.served = S.served) : BT K H0 (upd H b (.ins (He.ga K "Box") dx (bxf S' li dv ds dr))) b dx li dv ds dr S' t dt yb ll lg lw lm T where
  same := same_upd h.same (h.new b (by simp))
  nd := h.nd
  new := h.new
  hb := upd_same
  hli := by rw [upd_ne (nd_ne h.nd (i := 1) (j := 0) rfl rfl (by decide)), e1]; exact h.hli
  hdv := by rw [upd_ne (nd_ne h.nd (i := 2) (j := 0) rfl rfl (by decide)), e2]; exact h.hdv
  hds := by rw [upd_ne (nd_ne h.nd (i := 3) (j := 0) rfl rfl (by decide)), e3]; exact h.hds
  hdr := by rw [upd_ne (nd_ne h.nd (i := 4) (j := 0) rfl rfl (by decide)), e4]; exact h.hdr
  ht := by rw [upd_ne (nd_ne h.nd (i := 5) (j := 0) rfl rfl (by decide))]; exact h.ht
  hll := by rw [upd_ne (nd_ne h.nd (i := 6) (j := 0) rfl rfl (by decide))]; exact h.hll
  hlg := by rw [upd_ne (nd_ne h.nd (i := 7) (j := 0) rfl rfl (by decide))]; exact h.hlg
  hlw := by rw [upd_ne (nd_ne h.nd (i := 8) (j := 0) rfl rfl (by decide))]; exact h.hlw
  hlm := by rw [upd_ne (nd_ne h.nd (i := 9) (j := 0) rfl rfl (by decide))]; exact h.hlm
theorem BT.set_li (h : BT K H0 H b dx li dv ds dr S t dt yb ll lg lw lm T) (e : S' = { S with inside := S'.inside }) : BT K H0 (upd H li (.lst (S'.inside.map V.int))) b dx li dv ds dr S' t dt yb ll lg lw lm T where
  same := same_upd h.same (h.new li (by simp))
  nd := h.nd
  new := h.new
  hb := by rw [upd_ne (nd_ne h.nd (i := 0) (j := 1) rfl rfl (by decide)), e]; exact h.hb
  hli := upd_same
  hdv := by rw [upd_ne (nd_ne h.nd (i := 2) (j := 1) rfl rfl (by decide)), e]; exact h.hdv
  hds := by rw [upd_ne (nd_ne h.nd (i := 3) (j := 1) rfl rfl (by decide)), e]; exact h.hds
  hdr := by rw [upd_ne (nd_ne h.nd (i := 4) (j := 1) rfl rfl (by decide)), e]; exact h.hdr
  ht := by rw [upd_ne (nd_ne h.nd (i := 5) (j := 1) rfl rfl (by decide))]; exact h.ht
  hll := by rw [upd_ne (nd_ne h.nd (i := 6) (j := 1) rfl rfl (by decide))]; exact h.hll
  hlg := by rw [upd_ne (nd_ne h.nd (i := 7) (j := 1) rfl rfl (by decide))]; exact h.hlg
  hlw := by rw [upd_ne (nd_ne h.nd (i := 8) (j := 1) rfl rfl (by decide))]; exact h.hlw
  hlm := by rw [upd_ne (nd_ne h.nd (i := 9) (j := 1) rfl rfl (by decide))]; exact h.hlm
theorem BT.set_dv (h : BT K H0 H b dx li dv ds dr S t dt yb ll lg lw lm T) (e : S' = { S with valid := S'.valid }) : BT K H0 (upd H dv (.dK (kvT S'.valid))) b dx li dv ds dr S' t dt yb ll lg lw lm T where
  same := same_upd h.same (h.new dv (by simp))
  nd := h.nd
  new := h.new
  hb := by rw [upd_ne (nd_ne h.nd (i := 0) (j := 2) rfl rfl (by decide)), e]; exact h.hb
  hli := by rw [upd_ne (nd_ne h.nd (i := 1) (j := 2) rfl rfl (by decide)), e]; exact h.hli
  hdv := upd_same
  hds := by rw [upd_ne (nd_ne h.nd (i := 3) (j := 2) rfl rfl (by decide)), e]; exact h.hds
  hdr := by rw [upd_ne (nd_ne h.nd (i := 4) (j := 2) rfl rfl (by decide)), e]; exact h.hdr
  ht := by rw [upd_ne (nd_ne h.nd (i := 5) (j := 2) rfl rfl (by decide))]; exact h.ht
  hll := by rw [upd_ne (nd_ne h.nd (i := 6) (j := 2) rfl rfl (by decide))]; exact h.hll
  hlg := by rw [upd_ne (nd_ne h.nd (i := 7) (j := 2) rfl rfl (by decide))]; exact h.hlg
  hlw := by rw [upd_ne (nd_ne h.nd (i := 8) (j := 2) rfl rfl (by decide))]; exact h.hlw
  hlm := by rw [upd_ne (nd_ne h.nd (i := 9) (j := 2) rfl rfl (by decide))]; exact h.hlm
theorem BT.set_ds (h : BT K H0 H b dx li dv ds dr S t dt yb ll lg lw lm T) (e : S' = { S with sent := S'.sent }) : BT K H0 (upd H ds (.dK (kvT S'.sent))) b dx li dv ds dr S' t dt yb ll lg lw lm T where
  same := same_upd h.same (h.new ds (by simp))
  nd := h.nd
  new := h.new
  hb := by rw [upd_ne (nd_ne h.nd (i := 0) (j := 3) rfl rfl (by decide)), e]; exact h.hb
  hli := by rw [upd_ne (nd_ne h.nd (i := 1) (j := 3) rfl rfl (by decide)), e]; exact h.hli
  hdv := by rw [upd_ne (nd_ne h.nd (i := 2) (j := 3) rfl rfl (by decide)), e]; exact h.hdv
  hds := upd_same
  hdr := by rw [upd_ne (nd_ne h.nd (i := 4) (j := 3) rfl rfl (by decide)), e]; exact h.hdr
  ht := by rw [upd_ne (nd_ne h.nd (i := 5) (j := 3) rfl rfl (by decide))]; exact h.ht
  hll := by rw [upd_ne (nd_ne h.nd (i := 6) (j := 3) rfl rfl (by decide))]; exact h.hll
  hlg := by rw [upd_ne (nd_ne h.nd (i := 7) (j := 3) rfl rfl (by decide))]; exact h.hlg
  hlw := by rw [upd_ne (nd_ne h.nd (i := 8) (j := 3) rfl rfl (by decide))]; exact h.hlw
  hlm := by rw [upd_ne (nd_ne h.nd (i := 9) (j := 3) rfl rfl (by decide))]; exact h.hlm
theorem BT.set_dr (h : BT K H0 H b dx li dv ds dr S t dt yb ll lg lw lm T) (e : S' = { S with served := S'.served }) : BT K H0 (upd H dr (.dK (kvT S'.served))) b dx li dv ds dr S' t dt yb ll lg lw lm T where
  same := same_upd h.same (h.new dr (by simp))
  nd := h.nd
  new := h.new
  hb := by rw [upd_ne (nd_ne h.nd (i := 0) (j := 4) rfl rfl (by decide)), e]; exact h.hb
  hli := by rw [upd_ne (nd_ne h.nd (i := 1) (j := 4) rfl rfl (by decide)), e]; exact h.hli
  hdv := by rw [upd_ne (nd_ne h.nd (i := 2) (j := 4) rfl rfl (by decide)), e]; exact h.hdv
  hds := by rw [upd_ne (nd_ne h.nd (i := 3) (j := 4) rfl rfl (by decide)), e]; exact h.hds
  hdr := upd_same
  ht := by rw [upd_ne (nd_ne h.nd (i := 5) (j := 4) rfl rfl (by decide))]; exact h.ht
  hll := by rw [upd_ne (nd_ne h.nd (i := 6) (j := 4) rfl rfl (by decide))]; exact h.hll
  hlg := by rw [upd_ne (nd_ne h.nd (i := 7) (j := 4) rfl rfl (by decide))]; exact h.hlg
  hlw := by rw [upd_ne (nd_ne h.nd (i := 8) (j := 4) rfl rfl (by decide))]; exact h.hlw
  hlm := by rw [upd_ne (nd_ne h.nd (i := 9) (j := 4) rfl rfl (by decide))]; exact h.hlm
theorem BT.set_t (h : BT K H0 H b dx li dv ds dr S t dt yb ll lg lw lm T) (e1 : T'.letters = T.letters) (e2 : T'.got = T.got) (e3 : T'.wrongs = T.wrongs) (e4 : T'.moments = T.moments) : BT K H0 (upd H t (.ins (He.ga K "Told") dt (tdf T' yb ll lg lw lm))) b dx li dv ds dr S t dt yb ll lg lw lm T' where
  same := same_upd h.same (h.new t (by simp))
  nd := h.nd
  new := h.new
  hb := by rw [upd_ne (nd_ne h.nd (i := 0) (j := 5) rfl rfl (by decide))]; exact h.hb
  hli := by rw [upd_ne (nd_ne h.nd (i := 1) (j := 5) rfl rfl (by decide))]; exact h.hli
  hdv := by rw [upd_ne (nd_ne h.nd (i := 2) (j := 5) rfl rfl (by decide))]; exact h.hdv
  hds := by rw [upd_ne (nd_ne h.nd (i := 3) (j := 5) rfl rfl (by decide))]; exact h.hds
  hdr := by rw [upd_ne (nd_ne h.nd (i := 4) (j := 5) rfl rfl (by decide))]; exact h.hdr
  ht := upd_same
  hll := by rw [upd_ne (nd_ne h.nd (i := 6) (j := 5) rfl rfl (by decide)), e1]; exact h.hll
  hlg := by rw [upd_ne (nd_ne h.nd (i := 7) (j := 5) rfl rfl (by decide)), e2]; exact h.hlg
  hlw := by rw [upd_ne (nd_ne h.nd (i := 8) (j := 5) rfl rfl (by decide)), e3]; exact h.hlw
  hlm := by rw [upd_ne (nd_ne h.nd (i := 9) (j := 5) rfl rfl (by decide)), e4]; exact h.hlm
theorem BT.set_y (h : BT K H0 H b dx li dv ds dr S t dt yb ll lg lw lm T) (y2 : Bool) : BT K H0 (upd H t (.ins (He.ga K "Told") dt (tdf T y2 ll lg lw lm))) b dx li dv ds dr S t dt y2 ll lg lw lm T where
  same := same_upd h.same (h.new t (by simp))
  nd := h.nd
  new := h.new
  hb := by rw [upd_ne (nd_ne h.nd (i := 0) (j := 5) rfl rfl (by decide))]; exact h.hb
  hli := by rw [upd_ne (nd_ne h.nd (i := 1) (j := 5) rfl rfl (by decide))]; exact h.hli
  hdv := by rw [upd_ne (nd_ne h.nd (i := 2) (j := 5) rfl rfl (by decide))]; exact h.hdv
  hds := by rw [upd_ne (nd_ne h.nd (i := 3) (j := 5) rfl rfl (by decide))]; exact h.hds
  hdr := by rw [upd_ne (nd_ne h.nd (i := 4) (j := 5) rfl rfl (by decide))]; exact h.hdr
  ht := upd_same
  hll := by rw [upd_ne (nd_ne h.nd (i := 6) (j := 5) rfl rfl (by decide))]; exact h.hll
  hlg := by rw [upd_ne (nd_ne h.nd (i := 7) (j := 5) rfl rfl (by decide))]; exact h.hlg
  hlw := by rw [upd_ne (nd_ne h.nd (i := 8) (j := 5) rfl rfl (by decide))]; exact h.hlw
  hlm := by rw [upd_ne (nd_ne h.nd (i := 9) (j := 5) rfl rfl (by decide))]; exact h.hlm
theorem BT.set_ll (h : BT K H0 H b dx li dv ds dr S t dt yb ll lg lw lm T) (e : T' = { T with letters := T'.letters }) : BT K H0 (upd H ll (.lst (T'.letters.map V.int))) b dx li dv ds dr S t dt yb ll lg lw lm T' where
  same := same_upd h.same (h.new ll (by simp))
  nd := h.nd
  new := h.new
  hb := by rw [upd_ne (nd_ne h.nd (i := 0) (j := 6) rfl rfl (by decide))]; exact h.hb
  hli := by rw [upd_ne (nd_ne h.nd (i := 1) (j := 6) rfl rfl (by decide))]; exact h.hli
  hdv := by rw [upd_ne (nd_ne h.nd (i := 2) (j := 6) rfl rfl (by decide))]; exact h.hdv
  hds := by rw [upd_ne (nd_ne h.nd (i := 3) (j := 6) rfl rfl (by decide))]; exact h.hds
  hdr := by rw [upd_ne (nd_ne h.nd (i := 4) (j := 6) rfl rfl (by decide))]; exact h.hdr
  ht := by rw [upd_ne (nd_ne h.nd (i := 5) (j := 6) rfl rfl (by decide)), e]; exact h.ht
  hll := upd_same
  hlg := by rw [upd_ne (nd_ne h.nd (i := 7) (j := 6) rfl rfl (by decide)), e]; exact h.hlg
  hlw := by rw [upd_ne (nd_ne h.nd (i := 8) (j := 6) rfl rfl (by decide)), e]; exact h.hlw
  hlm := by rw [upd_ne (nd_ne h.nd (i := 9) (j := 6) rfl rfl (by decide)), e]; exact h.hlm
theorem BT.set_lg (h : BT K H0 H b dx li dv ds dr S t dt yb ll lg lw lm T) (e : T' = { T with got := T'.got }) : BT K H0 (upd H lg (.lst (T'.got.map V.int))) b dx li dv ds dr S t dt yb ll lg lw lm T' where
  same := same_upd h.same (h.new lg (by simp))
  nd := h.nd
  new := h.new
  hb := by rw [upd_ne (nd_ne h.nd (i := 0) (j := 7) rfl rfl (by decide))]; exact h.hb
  hli := by rw [upd_ne (nd_ne h.nd (i := 1) (j := 7) rfl rfl (by decide))]; exact h.hli
  hdv := by rw [upd_ne (nd_ne h.nd (i := 2) (j := 7) rfl rfl (by decide))]; exact h.hdv
  hds := by rw [upd_ne (nd_ne h.nd (i := 3) (j := 7) rfl rfl (by decide))]; exact h.hds
  hdr := by rw [upd_ne (nd_ne h.nd (i := 4) (j := 7) rfl rfl (by decide))]; exact h.hdr
  ht := by rw [upd_ne (nd_ne h.nd (i := 5) (j := 7) rfl rfl (by decide)), e]; exact h.ht
  hll := by rw [upd_ne (nd_ne h.nd (i := 6) (j := 7) rfl rfl (by decide)), e]; exact h.hll
  hlg := upd_same
  hlw := by rw [upd_ne (nd_ne h.nd (i := 8) (j := 7) rfl rfl (by decide)), e]; exact h.hlw
  hlm := by rw [upd_ne (nd_ne h.nd (i := 9) (j := 7) rfl rfl (by decide)), e]; exact h.hlm
theorem BT.set_lw (h : BT K H0 H b dx li dv ds dr S t dt yb ll lg lw lm T) (e : T' = { T with wrongs := T'.wrongs }) : BT K H0 (upd H lw (.lst (T'.wrongs.map V.str))) b dx li dv ds dr S t dt yb ll lg lw lm T' where
  same := same_upd h.same (h.new lw (by simp))
  nd := h.nd
  new := h.new
  hb := by rw [upd_ne (nd_ne h.nd (i := 0) (j := 8) rfl rfl (by decide))]; exact h.hb
  hli := by rw [upd_ne (nd_ne h.nd (i := 1) (j := 8) rfl rfl (by decide))]; exact h.hli
  hdv := by rw [upd_ne (nd_ne h.nd (i := 2) (j := 8) rfl rfl (by decide))]; exact h.hdv
  hds := by rw [upd_ne (nd_ne h.nd (i := 3) (j := 8) rfl rfl (by decide))]; exact h.hds
  hdr := by rw [upd_ne (nd_ne h.nd (i := 4) (j := 8) rfl rfl (by decide))]; exact h.hdr
  ht := by rw [upd_ne (nd_ne h.nd (i := 5) (j := 8) rfl rfl (by decide)), e]; exact h.ht
  hll := by rw [upd_ne (nd_ne h.nd (i := 6) (j := 8) rfl rfl (by decide)), e]; exact h.hll
  hlg := by rw [upd_ne (nd_ne h.nd (i := 7) (j := 8) rfl rfl (by decide)), e]; exact h.hlg
  hlw := upd_same
  hlm := by rw [upd_ne (nd_ne h.nd (i := 9) (j := 8) rfl rfl (by decide)), e]; exact h.hlm
theorem BT.set_lm (h : BT K H0 H b dx li dv ds dr S t dt yb ll lg lw lm T) (e : T' = { T with moments := T'.moments }) : BT K H0 (upd H lm (.lst (T'.moments.map V.str))) b dx li dv ds dr S t dt yb ll lg lw lm T' where
  same := same_upd h.same (h.new lm (by simp))
  nd := h.nd
  new := h.new
  hb := by rw [upd_ne (nd_ne h.nd (i := 0) (j := 9) rfl rfl (by decide))]; exact h.hb
  hli := by rw [upd_ne (nd_ne h.nd (i := 1) (j := 9) rfl rfl (by decide))]; exact h.hli
  hdv := by rw [upd_ne (nd_ne h.nd (i := 2) (j := 9) rfl rfl (by decide))]; exact h.hdv
  hds := by rw [upd_ne (nd_ne h.nd (i := 3) (j := 9) rfl rfl (by decide))]; exact h.hds
  hdr := by rw [upd_ne (nd_ne h.nd (i := 4) (j := 9) rfl rfl (by decide))]; exact h.hdr
  ht := by rw [upd_ne (nd_ne h.nd (i := 5) (j := 9) rfl rfl (by decide)), e]; exact h.ht
  hll := by rw [upd_ne (nd_ne h.nd (i := 6) (j := 9) rfl rfl (by decide)), e]; exact h.hll
  hlg := by rw [upd_ne (nd_ne h.nd (i := 7) (j := 9) rfl rfl (by decide)), e]; exact h.hlg
  hlw := by rw [upd_ne (nd_ne h.nd (i := 8) (j := 9) rfl rfl (by decide)), e]; exact h.hlw
  hlm := upd_same
theorem BT.new_dv (h : BT K H0 H b dx li dv ds dr S t dt yb ll lg lw lm T) {p : Addr} (hp : H p = none) : BT K H0 (upd (upd H p (.dK [])) b (.ins (He.ga K "Box") dx (bxf { S with valid := [] } li p ds dr))) b dx li p ds dr { S with valid := [] } t dt yb ll lg lw lm T := by
  have hn : p ∉ [b, li, dv, ds, dr, t, ll, lg, lw, lm] := by
    intro z
    simp only [List.mem_cons, List.not_mem_nil, or_false] at z
    rcases z with rfl | rfl | rfl | rfl | rfl | rfl | rfl | rfl | rfl | rfl
    · exact absurd (h.hb.symm.trans hp) (by intro q; cases q)
    · exact absurd (h.hli.symm.trans hp) (by intro q; cases q)
    · exact absurd (h.hdv.symm.trans hp) (by intro q; cases q)
    · exact absurd (h.hds.symm.trans hp) (by intro q; cases q)
    · exact absurd (h.hdr.symm.trans hp) (by intro q; cases q)
    · exact absurd (h.ht.symm.trans hp) (by intro q; cases q)
    · exact absurd (h.hll.symm.trans hp) (by intro q; cases q)
    · exact absurd (h.hlg.symm.trans hp) (by intro q; cases q)
    · exact absurd (h.hlw.symm.trans hp) (by intro q; cases q)
    · exact absurd (h.hlm.symm.trans hp) (by intro q; cases q)
  have nd2 : [b, li, p, ds, dr, t, ll, lg, lw, lm].Nodup := nd_put (i := 2) h.nd hn
  have hpb : p ≠ b := fun z => hn (by rw [z]; simp)
  exact {
    same := same_upd (same_upd h.same (h.same.free hp)) (h.new b (by simp))
    nd := nd2
    new := fun a ha => by
      simp only [List.mem_cons, List.not_mem_nil, or_false] at ha
      rcases ha with rfl | rfl | rfl | rfl | rfl | rfl | rfl | rfl | rfl | rfl
      · exact h.new _ (by simp)
      · exact h.new _ (by simp)
      · exact h.same.free hp
      · exact h.new _ (by simp)
      · exact h.new _ (by simp)
      · exact h.new _ (by simp)
      · exact h.new _ (by simp)
      · exact h.new _ (by simp)
      · exact h.new _ (by simp)
      · exact h.new _ (by simp)
    hb := upd_same
    hli := by rw [upd_ne (nd_ne h.nd (i := 1) (j := 0) rfl rfl (by decide)), upd_ne (fun z => hn (by rw [← z]; simp))]; exact h.hli
    hdv := by rw [upd_ne hpb]; exact upd_same
    hds := by rw [upd_ne (nd_ne h.nd (i := 3) (j := 0) rfl rfl (by decide)), upd_ne (fun z => hn (by rw [← z]; simp))]; exact h.hds
    hdr := by rw [upd_ne (nd_ne h.nd (i := 4) (j := 0) rfl rfl (by decide)), upd_ne (fun z => hn (by rw [← z]; simp))]; exact h.hdr
    ht := by rw [upd_ne (nd_ne h.nd (i := 5) (j := 0) rfl rfl (by decide)), upd_ne (fun z => hn (by rw [← z]; simp))]; exact h.ht
    hll := by rw [upd_ne (nd_ne h.nd (i := 6) (j := 0) rfl rfl (by decide)), upd_ne (fun z => hn (by rw [← z]; simp))]; exact h.hll
    hlg := by rw [upd_ne (nd_ne h.nd (i := 7) (j := 0) rfl rfl (by decide)), upd_ne (fun z => hn (by rw [← z]; simp))]; exact h.hlg
    hlw := by rw [upd_ne (nd_ne h.nd (i := 8) (j := 0) rfl rfl (by decide)), upd_ne (fun z => hn (by rw [← z]; simp))]; exact h.hlw
    hlm := by rw [upd_ne (nd_ne h.nd (i := 9) (j := 0) rfl rfl (by decide)), upd_ne (fun z => hn (by rw [← z]; simp))]; exact h.hlm
  }
theorem BT.hand (h : BT K H0 H b dx li dv ds dr S t dt yb ll lg lw lm T) {p : Addr} (hp : H p = none) : BT K H0 (upd (upd (upd H t (.ins (He.ga K "Told") dt (tdf T yb ll li lw lm))) p (.lst [])) b (.ins (He.ga K "Box") dx (bxf S p dv ds dr))) b dx p dv ds dr { S with inside := [] } t dt yb ll li lw lm { T with got := S.inside } := by
  have hn : p ∉ [b, li, dv, ds, dr, t, ll, lg, lw, lm] := by
    intro z
    simp only [List.mem_cons, List.not_mem_nil, or_false] at z
    rcases z with rfl | rfl | rfl | rfl | rfl | rfl | rfl | rfl | rfl | rfl
    · exact absurd (h.hb.symm.trans hp) (by intro q; cases q)
    · exact absurd (h.hli.symm.trans hp) (by intro q; cases q)
    · exact absurd (h.hdv.symm.trans hp) (by intro q; cases q)
    · exact absurd (h.hds.symm.trans hp) (by intro q; cases q)
    · exact absurd (h.hdr.symm.trans hp) (by intro q; cases q)
    · exact absurd (h.ht.symm.trans hp) (by intro q; cases q)
    · exact absurd (h.hll.symm.trans hp) (by intro q; cases q)
    · exact absurd (h.hlg.symm.trans hp) (by intro q; cases q)
    · exact absurd (h.hlw.symm.trans hp) (by intro q; cases q)
    · exact absurd (h.hlm.symm.trans hp) (by intro q; cases q)
  have nd1 : [b, p, dv, ds, dr, t, ll, lg, lw, lm].Nodup := nd_put (i := 1) h.nd hn
  have nd2 : [b, p, dv, ds, dr, t, ll, li, lw, lm].Nodup := nd_put (i := 7) nd1 (fun z => by
    simp only [List.mem_cons, List.not_mem_nil, or_false] at z
    rcases z with z | z | z | z | z | z | z | z | z | z
    · exact (nd_ne h.nd (i := 1) (j := 0) rfl rfl (by decide)) z
    · exact hn (by rw [← z]; simp)
    · exact (nd_ne h.nd (i := 1) (j := 2) rfl rfl (by decide)) z
    · exact (nd_ne h.nd (i := 1) (j := 3) rfl rfl (by decide)) z
    · exact (nd_ne h.nd (i := 1) (j := 4) rfl rfl (by decide)) z
    · exact (nd_ne h.nd (i := 1) (j := 5) rfl rfl (by decide)) z
    · exact (nd_ne h.nd (i := 1) (j := 6) rfl rfl (by decide)) z
    · exact (nd_ne h.nd (i := 1) (j := 7) rfl rfl (by decide)) z
    · exact (nd_ne h.nd (i := 1) (j := 8) rfl rfl (by decide)) z
    · exact (nd_ne h.nd (i := 1) (j := 9) rfl rfl (by decide)) z)
  have hpb : p ≠ b := fun z => hn (by rw [z]; simp)
  exact {
    same := same_upd (same_upd (same_upd h.same (h.new t (by simp))) (h.same.free hp)) (h.new b (by simp))
    nd := nd2
    new := fun a ha => by
      simp only [List.mem_cons, List.not_mem_nil, or_false] at ha
      rcases ha with rfl | rfl | rfl | rfl | rfl | rfl | rfl | rfl | rfl | rfl
      · exact h.new _ (by simp)
      · exact h.same.free hp
      · exact h.new _ (by simp)
      · exact h.new _ (by simp)
      · exact h.new _ (by simp)
      · exact h.new _ (by simp)
      · exact h.new _ (by simp)
      · exact h.new _ (by simp)
      · exact h.new _ (by simp)
      · exact h.new _ (by simp)
    hb := upd_same
    hli := by rw [upd_ne hpb]; exact upd_same
    hdv := by rw [upd_ne (nd_ne h.nd (i := 2) (j := 0) rfl rfl (by decide)), upd_ne (fun z => hn (by rw [← z]; simp)), upd_ne (nd_ne h.nd (i := 2) (j := 5) rfl rfl (by decide))]; exact h.hdv
    hds := by rw [upd_ne (nd_ne h.nd (i := 3) (j := 0) rfl rfl (by decide)), upd_ne (fun z => hn (by rw [← z]; simp)), upd_ne (nd_ne h.nd (i := 3) (j := 5) rfl rfl (by decide))]; exact h.hds
    hdr := by rw [upd_ne (nd_ne h.nd (i := 4) (j := 0) rfl rfl (by decide)), upd_ne (fun z => hn (by rw [← z]; simp)), upd_ne (nd_ne h.nd (i := 4) (j := 5) rfl rfl (by decide))]; exact h.hdr
    hll := by rw [upd_ne (nd_ne h.nd (i := 6) (j := 0) rfl rfl (by decide)), upd_ne (fun z => hn (by rw [← z]; simp)), upd_ne (nd_ne h.nd (i := 6) (j := 5) rfl rfl (by decide))]; exact h.hll
    hlw := by rw [upd_ne (nd_ne h.nd (i := 8) (j := 0) rfl rfl (by decide)), upd_ne (fun z => hn (by rw [← z]; simp)), upd_ne (nd_ne h.nd (i := 8) (j := 5) rfl rfl (by decide))]; exact h.hlw
    hlm := by rw [upd_ne (nd_ne h.nd (i := 9) (j := 0) rfl rfl (by decide)), upd_ne (fun z => hn (by rw [← z]; simp)), upd_ne (nd_ne h.nd (i := 9) (j := 5) rfl rfl (by decide))]; exact h.hlm
    hlg := by rw [upd_ne (nd_ne h.nd (i := 1) (j := 0) rfl rfl (by decide)), upd_ne (fun z => hn (by rw [← z]; simp)), upd_ne (nd_ne h.nd (i := 1) (j := 5) rfl rfl (by decide))]; exact h.hli
    ht := by rw [upd_ne (nd_ne h.nd (i := 5) (j := 0) rfl rfl (by decide)), upd_ne (fun z => hn (by rw [← z]; simp))]; exact upd_same
  }
end
end K25

namespace K25
open PySem PySem.Spec PyProof.Rows L2 My
/-! ### what the box does, as a function -/
def ins (p : Int) (l : List Int) : List Int := if p ∈ l then l else l ++ [p]
theorem ins_len (p : Int) (l : List Int) : (ins p l).length ≤ l.length + 1 := by
  unfold ins
  split
  · omega
  · simp
theorem kvT_any (l : List Int) (p : Int) : ((kvT l).any fun kv => decide (kv.1 = (Sum.inl p : Key))) = decide (p ∈ l) := by
  induction l with
  | nil => rfl
  | cons a l ih =>
    show (decide ((Sum.inl a : Key) = Sum.inl p) || ((kvT l).any fun kv => decide (kv.1 = (Sum.inl p : Key)))) = _
    rw [ih, key_ll]
    by_cases e : a = p
    · subst e; simp
    · have e2 : ¬ p = a := fun z => e z.symm
      simp [e, e2]
theorem valV_kvT (l : List Int) (p : Int) : (valV (kvT l) (Sum.inl p)).isSome = decide (p ∈ l) := by
  rw [← valV_any, kvT_any]
theorem kvT_len (l : List Int) : (kvT l).length = l.length := by simp [kvT]
theorem putK_kvT (l : List Int) (p : Int) : putK (kvT l) (Sum.inl p) (.bl true) = kvT (ins p l) := by
  unfold putK
  rw [kvT_any]
  unfold ins
  by_cases e : p ∈ l
  · rw [decide_eq_true e, if_pos rfl, if_pos e]
    unfold kvT
    rw [List.map_map]
    refine List.map_congr_left fun a _ => ?_
    show (if (Sum.inl a : Key) = Sum.inl p then _ else _) = _
    split
    · rfl
    · rfl
  · rw [decide_eq_false e, if_neg Bool.false_ne_true, if_neg e]
    unfold kvT
    rw [List.map_append]
    rfl
def sendCode (x : BoxS × ToldS) : BoxS × ToldS :=
  if x.1.tf = "full" then
    match x.1.last with
    | some p => ({ x.1 with valid := ins p x.1.valid, sent := ins p x.1.sent }, { x.2 with letters := x.2.letters ++ [p] })
    | none => x
  else x
def act (x : BoxS × ToldS) (a : Str) : BoxS × ToldS :=
  if a = "code" then sendCode x
  else if a = "void" then ({ x.1 with valid := [] }, x.2)
  else if a = "look" then ({ x.1 with tf := if x.1.inside.isEmpty then "free" else "full" }, x.2)
  else if a = "lock" then ({ x.1 with ajar := false }, x.2)
  else ({ x.1 with tf := a }, x.2)
def carry (r : RuleL) (m : Str) (x : BoxS × ToldS) : BoxS × ToldS := r.foldl act (x.1, { x.2 with moments := x.2.moments ++ [m] })
structure Bd (n : Nat) (x : BoxS × ToldS) : Prop where
  i : x.1.inside.length ≤ n
  v : x.1.valid.length ≤ n
  s : x.1.sent.length ≤ n
  r : x.1.served.length ≤ n
  l : x.2.letters.length ≤ n
  w : x.2.wrongs.length ≤ n
  m : x.2.moments.length ≤ n
theorem Bd.mono {n m : Nat} {x : BoxS × ToldS} (h : Bd n x) (e : n ≤ m) : Bd m x := ⟨Nat.le_trans h.i e, Nat.le_trans h.v e, Nat.le_trans h.s e, Nat.le_trans h.r e, Nat.le_trans h.l e, Nat.le_trans h.w e, Nat.le_trans h.m e⟩
theorem Bd.send {n : Nat} {x : BoxS × ToldS} (h : Bd n x) : Bd (n + 1) (sendCode x) := by
  unfold sendCode
  split
  · split
    · rename_i p _
      have h1 := ins_len p x.1.valid
      have h2 := ins_len p x.1.sent
      refine ⟨Nat.le_succ_of_le h.i, ?_, ?_, Nat.le_succ_of_le h.r, ?_, Nat.le_succ_of_le h.w, Nat.le_succ_of_le h.m⟩
      · have := h.v; show (ins p x.1.valid).length ≤ n + 1; omega
      · have := h.s; show (ins p x.1.sent).length ≤ n + 1; omega
      · have := h.l; show (x.2.letters ++ [p]).length ≤ n + 1; rw [List.length_append]; show x.2.letters.length + 1 ≤ n + 1; omega
    · exact h.mono (Nat.le_succ n)
  · exact h.mono (Nat.le_succ n)
theorem Bd.act {n : Nat} {x : BoxS × ToldS} (h : Bd n x) (a : Str) : Bd (n + 1) (act x a) := by
  unfold K25.act
  have h1 := h.mono (Nat.le_succ n)
  split
  · exact h.send
  · split
    · exact ⟨h1.i, Nat.zero_le _, h1.s, h1.r, h1.l, h1.w, h1.m⟩
    · split
      · exact ⟨h1.i, h1.v, h1.s, h1.r, h1.l, h1.w, h1.m⟩
      · split
        · exact ⟨h1.i, h1.v, h1.s, h1.r, h1.l, h1.w, h1.m⟩
        · exact ⟨h1.i, h1.v, h1.s, h1.r, h1.l, h1.w, h1.m⟩
theorem Bd.foldl (r : RuleL) : ∀ {n : Nat} {x : BoxS × ToldS}, Bd n x → Bd (n + r.length) (r.foldl K25.act x) := by
  induction r with
  | nil => intro n x h; exact h
  | cons a r ih =>
    intro n x h
    have := ih (h.act a)
    rw [List.length_cons, show n + (r.length + 1) = n + 1 + r.length by omega]
    exact this
theorem Bd.mom {n : Nat} {x : BoxS × ToldS} (h : Bd n x) (m : Str) : Bd (n + 1) (x.1, { x.2 with moments := x.2.moments ++ [m] }) := by
  have h1 := h.mono (Nat.le_succ n)
  refine ⟨h1.i, h1.v, h1.s, h1.r, h1.l, h1.w, ?_⟩
  have := h.m
  show (x.2.moments ++ [m]).length ≤ n + 1
  rw [List.length_append]
  show x.2.moments.length + 1 ≤ n + 1
  omega
theorem Bd.carry {n : Nat} {x : BoxS × ToldS} (h : Bd n x) (r : RuleL) (m : Str) : Bd (n + 1 + r.length) (carry r m x) := (h.mom m).foldl r
def BTx (K : PySem.W.Frag) (H0 H : Hp) (b t : Addr) (x : BoxS × ToldS) : Prop := ∃ dx li dv ds dr dt yb ll lg lw lm, BT K H0 H b dx li dv ds dr x.1 t dt yb ll lg lw lm x.2
theorem lt_line {n : Nat} (h : n ≤ 1000000) : n < sizeLine := Nat.lt_of_le_of_lt h (by decide)
section
variable {P : Program} {w : World} {K : PySem.W.Frag} {mg : Str → Option Value} {base : Heap}
def sp_Box_send_code (K : PySem.W.Frag) : Sp := fun vs H Q _ => ∃ (H0 : Hp) (b t : Addr) (x : BoxS × ToldS) (n : Nat), vs = [.ref b, .ref t] ∧ BTx K H0 H b t x ∧ Bd n x ∧ n < 1000000 ∧ ∀ H', BTx K H0 H' b t (sendCode x) → Q .non H'
set_option maxHeartbeats 2000000 in
theorem ok_Box_send_code (T : Txt K mg) {fd : FuncData} (F : FunD K d_Box_send_code.name d_Box_send_code.qual d_Box_send_code.params d_Box_send_code.body d_Box_send_code.scope (d_Box_send_code.dvs K) (d_Box_send_code.kws K) (He.fAd K d_Box_send_code.at_) fd) : FnOk P w K mg base C8.CX0 1 (He.fAd K d_Box_send_code.at_) fd ["self", "told"] (sp_Box_send_code K) := by
  refine F.ok sc_Box_send_code (fun vs H Q E h => ?_) (fun cdv A outer s H vs Q E hr h => ?_)
  · obtain ⟨H0, b, t, x, n, rfl, _⟩ := h
    rfl
  · have hu := L2.hu_of hr
    obtain ⟨H0, b, t, ⟨S, U⟩, n, rfl, ⟨dx, li, dv, ds, dr, dt, yb, ll, lg, lw, lm, h⟩, bd, hn, q⟩ := h
    refine ⟨_, (PSs.nox ((pss_one (ps_if (PW.pt (pw_and (pt_cmpR op_eq (My.pe_fldK (K := K) rfl (pv 0) rfl) pe_str (nomark _)) (pw_and1 (pt_cmpR op_notN (My.pe_fldK (K := K) rfl (pv 0) rfl) pe_non (nomark _)))))
  (pss_cons (ps_dput hu (My.pe_fldK (K := K) rfl (pv 0) rfl) (My.pe_fldK (K := K) rfl (pv 0) rfl) pe_bl rfl)
  (pss_cons (ps_dput hu (My.pe_fldK (K := K) rfl (pv 0) rfl) (My.pe_fldK (K := K) rfl (pv 0) rfl) pe_bl rfl)
  (pss_one (ps_expr (My.pe_bmK (K := K) rfl PySem.F.plainAttrs_list PySem.F.slot_list_append PySem.F.type_list_append mt_append (My.pe_fldK (K := K) rfl (pv 1) rfl) (pa_cons (My.pe_fldK (K := K) rfl (pv 0) rfl) pa_nil))))))
  pss_nil)))), ?_⟩
    refine ⟨_, rfl, b, _, dx, _, _, rfl, h.hb, T.cl_Box, T.no_Box_taken_for, rfl, rfl, _, rfl, ?_⟩
    by_cases c : S.tf = "full"
    · have e : decide (V.str S.tf = V.str "full") = true := decide_eq_true (congrArg V.str c)
      rw [e]
      refine ⟨_, rfl, b, _, dx, _, _, rfl, h.hb, T.cl_Box, T.no_Box_last, rfl, rfl, _, rfl, ?_⟩
      cases hl : S.last with
      | none =>
        have e0 : sendCode (S, U) = (S, U) := by
          unfold sendCode
          simp only [if_pos c, hl]
        rw [e0] at q
        exact q _ ⟨dx, li, dv, ds, dr, dt, yb, ll, lg, lw, lm, h⟩
      | some p =>
        have e0 : sendCode (S, U) = ({ S with valid := ins p S.valid, sent := ins p S.sent }, { U with letters := U.letters ++ [p] }) := by
          unfold sendCode
          simp only [if_pos c, hl]
        rw [e0] at q
        have hb := h.hb
        refine ⟨_, rfl, b, _, dx, _, _, rfl, hb, T.cl_Box, T.no_Box_valid, rfl, _, rfl, b, _, dx, _, oV S.last, rfl, hb, T.cl_Box, T.no_Box_last, rfl, dv, upd H dv (.dK (kvT (ins p S.valid))), rfl, ?_, ?_⟩
        · rw [hl, ← putK_kvT]
          exact DPut.k (k := Sum.inl p) h.hdv (by rw [kvT_len]; exact lt_line (by have := bd.v; show S.valid.length ≤ 1000000; have z : S.valid.length ≤ n := bd.v; omega))
        have h2 := h.set_dv (S' := { S with valid := ins p S.valid }) rfl
        have hb2 := h2.hb
        refine ⟨_, rfl, b, _, dx, _, _, rfl, hb2, T.cl_Box, T.no_Box_sent, rfl, _, rfl, b, _, dx, _, oV S.last, rfl, hb2, T.cl_Box, T.no_Box_last, rfl, ds, upd (upd H dv (.dK (kvT (ins p S.valid)))) ds (.dK (kvT (ins p S.sent))), rfl, ?_, ?_⟩
        · rw [hl, ← putK_kvT S.sent p]
          exact DPut.k (k := Sum.inl p) h2.hds (by rw [kvT_len]; exact lt_line (by show S.sent.length ≤ 1000000; have z : S.sent.length ≤ n := bd.s; omega))
        have h3 := h2.set_ds (S' := { S with valid := ins p S.valid, sent := ins p S.sent }) rfl
        refine ⟨_, rfl, t, _, dt, _, _, rfl, h3.ht, T.cl_Told, T.no_Told_letters, rfl, .inl ⟨rfl, _, SqL.of h3.hll⟩, _, rfl, b, _, dx, _, oV S.last, rfl, h3.hb, T.cl_Box, T.no_Box_last, rfl, ll, _, _, rfl, rfl, h3.hll, ?_, ?_⟩
        · rw [List.length_map]
          exact lt_line (by show U.letters.length ≤ 1000000; have z : U.letters.length ≤ n := bd.l; omega)
        · have h4 := h3.set_ll (T' := { U with letters := U.letters ++ [p] }) rfl
          have e4 : U.letters.map V.int ++ [oV S.last] = (U.letters ++ [p]).map V.int := by rw [hl, List.map_append]; rfl
          rw [e4]
          exact q _ ⟨dx, li, dv, ds, dr, dt, yb, ll, lg, lw, lm, h4⟩
    · have e : decide (V.str S.tf = V.str "full") = false := decide_eq_false (fun z => c (V.str.inj z))
      rw [e]
      have e0 : sendCode (S, U) = (S, U) := by
        unfold sendCode
        simp only [if_neg c]
      rw [e0] at q
      exact q _ ⟨dx, li, dv, ds, dr, dt, yb, ll, lg, lw, lm, h⟩
theorem c_Box_send_code (T : Txt K mg) : C8.Met P w K mg base 1 (He.ga K "Box") "_send_code" (sp_Box_send_code K) [] := by
  obtain ⟨fd, F⟩ := T.f_Box_send_code
  exact ⟨_, fd, _, _, T.cl_Box, T.m_Box_send_code, ok_Box_send_code T F, F.bindsN (fun _ _ _ _ _ _ us hl => match us, hl with | [_, _], _ => rfl), .nil⟩
def sp_Box_act (K : PySem.W.Frag) : Sp := fun vs H Q _ => ∃ (H0 : Hp) (b t : Addr) (a : Str) (x : BoxS × ToldS) (n : Nat), vs = [.ref b, .str a, .ref t] ∧ BTx K H0 H b t x ∧ Bd n x ∧ n < 1000000 ∧ ∀ H', BTx K H0 H' b t (act x a) → Q .non H'
theorem str_eqF {a b : Str} (h : ¬ a = b) : decide (V.str a = V.str b) = false := decide_eq_false fun z => h (V.str.inj z)
theorem str_eqT {a b : Str} (h : a = b) : decide (V.str a = V.str b) = true := decide_eq_true (congrArg V.str h)
set_option maxHeartbeats 2000000 in
theorem ok_Box_act (T : Txt K mg) {fd : FuncData} (F : FunD K d_Box_act.name d_Box_act.qual d_Box_act.params d_Box_act.body d_Box_act.scope (d_Box_act.dvs K) (d_Box_act.kws K) (He.fAd K d_Box_act.at_) fd) : FnOk P w K mg base C8.CX0 2 (He.fAd K d_Box_act.at_) fd ["self", "action", "told"] (sp_Box_act K) := by
  have c_Box_send_code := c_Box_send_code (P := P) (w := w) (base := base) T
  refine F.ok sc_Box_act (fun vs H Q E h => ?_) (fun cdv A outer s H vs Q E hr h => ?_)
  · obtain ⟨H0, b, t, a, x, n, rfl, _⟩ := h
    rfl
  · have hu := L2.hu_of hr
    obtain ⟨H0, b, t, a, ⟨S, U⟩, n, rfl, hx, bd, hn, q⟩ := h
    refine ⟨_, (PSs.nox ((pss_one (ps_if (pt_cmpR op_eq (pv 1) pe_str (nomark _))
  (pss_one (ps_expr (C8.pe_mt c_Box_send_code hr (by decide) (pv 0) (pa_cons (pv 2) pa_nil))))
  (pss_one (ps_if (pt_cmpR op_eq (pv 1) pe_str (nomark _))
  (pss_one (ps_fld (pv 0) pe_dnewK rfl))
  (pss_one (ps_if (pt_cmpR op_eq (pv 1) pe_str (nomark _))
  (pss_one (ps_fld (pv 0) (pe_ifExp (My.pt_truthK (K := K) rfl (My.pe_fldK (K := K) rfl (pv 0) rfl) (by intro _; rfl)) pe_str pe_str) rfl))
  (pss_one (ps_if (pt_cmpR op_eq (pv 1) pe_str (nomark _))
  (pss_one (ps_fld (pv 0) pe_bl rfl))
  (pss_one (ps_fld (pv 0) (pv 1) rfl)))))))))))), ?_⟩
    refine ⟨_, rfl, rfl, _, rfl, ?_⟩
    by_cases c1 : a = "code"
    · rw [str_eqT c1]
      have e0 : act (S, U) a = sendCode (S, U) := by unfold act; rw [if_pos c1]
      rw [e0] at q
      obtain ⟨dx, li, dv, ds, dr, dt, yb, ll, lg, lw, lm, h⟩ := id hx
      exact ⟨_, rfl, b, dx, _, rfl, h.hb, rfl, _, rfl, H0, b, t, (S, U), n, rfl, hx, bd, hn, q⟩
    rw [str_eqF c1]
    obtain ⟨dx, li, dv, ds, dr, dt, yb, ll, lg, lw, lm, h⟩ := id hx
    refine ⟨_, rfl, rfl, _, rfl, ?_⟩
    by_cases c2 : a = "void"
    · rw [str_eqT c2]
      have e0 : act (S, U) a = ({ S with valid := [] }, U) := by unfold act; rw [if_neg c1, if_pos c2]
      rw [e0] at q
      refine fun p hp => ?_
      have npb : b ≠ p := ne_of_none h.hb hp
      refine ⟨_, rfl, b, _, dx, _, rfl, (by rw [upd_ne npb]; exact h.hb), T.cl_Box, T.no_Box_valid, (by show 8 < 1000; decide), ?_⟩
      exact q _ ⟨dx, li, p, ds, dr, dt, yb, ll, lg, lw, lm, h.new_dv hp⟩
    rw [str_eqF c2]
    refine ⟨_, rfl, rfl, _, rfl, ?_⟩
    by_cases c3 : a = "look"
    · rw [str_eqT c3]
      have e0 : act (S, U) a = ({ S with tf := if S.inside.isEmpty then "free" else "full" }, U) := by unfold act; rw [if_neg c1, if_neg c2, if_pos c3]
      rw [e0] at q
      refine ⟨_, rfl, b, _, dx, _, _, rfl, h.hb, T.cl_Box, T.no_Box_inside, rfl, !(S.inside.map V.int).isEmpty, .inl ⟨_, SqL.of h.hli, rfl⟩, ?_⟩
      have h1 := h.set_b (S' := { S with tf := if S.inside.isEmpty then "free" else "full" }) rfl rfl rfl rfl
      rw [List.isEmpty_map]
      cases c : S.inside.isEmpty with
      | true =>
        rw [c] at h1 q
        exact ⟨_, rfl, b, _, dx, _, rfl, h.hb, T.cl_Box, T.no_Box_taken_for, (by show 8 < 1000; decide), q _ ⟨dx, li, dv, ds, dr, dt, yb, ll, lg, lw, lm, h1⟩⟩
      | false =>
        rw [c] at h1 q
        exact ⟨_, rfl, b, _, dx, _, rfl, h.hb, T.cl_Box, T.no_Box_taken_for, (by show 8 < 1000; decide), q _ ⟨dx, li, dv, ds, dr, dt, yb, ll, lg, lw, lm, h1⟩⟩
    rw [str_eqF c3]
    refine ⟨_, rfl, rfl, _, rfl, ?_⟩
    by_cases c4 : a = "lock"
    · rw [str_eqT c4]
      have e0 : act (S, U) a = ({ S with ajar := false }, U) := by unfold act; rw [if_neg c1, if_neg c2, if_neg c3, if_pos c4]
      rw [e0] at q
      have h1 := h.set_b (S' := { S with ajar := false }) rfl rfl rfl rfl
      exact ⟨_, rfl, b, _, dx, _, rfl, h.hb, T.cl_Box, T.no_Box_ajar, (by show 8 < 1000; decide), q _ ⟨dx, li, dv, ds, dr, dt, yb, ll, lg, lw, lm, h1⟩⟩
    rw [str_eqF c4]
    have e0 : act (S, U) a = ({ S with tf := a }, U) := by unfold act; rw [if_neg c1, if_neg c2, if_neg c3, if_neg c4]
    rw [e0] at q
    have h1 := h.set_b (S' := { S with tf := a }) rfl rfl rfl rfl
    exact ⟨_, rfl, _, rfl, b, _, dx, _, rfl, h.hb, T.cl_Box, T.no_Box_taken_for, (by show 8 < 1000; decide), q _ ⟨dx, li, dv, ds, dr, dt, yb, ll, lg, lw, lm, h1⟩⟩
theorem c_Box_act (T : Txt K mg) : C8.Met P w K mg base 2 (He.ga K "Box") "_act" (sp_Box_act K) [] := by
  obtain ⟨fd, F⟩ := T.f_Box_act
  exact ⟨_, fd, _, _, T.cl_Box, T.m_Box_act, ok_Box_act T F, F.bindsN (fun _ _ _ _ _ _ us hl => match us, hl with | [_, _, _], _ => rfl), .nil⟩
def sp_Box_carry_out (K : PySem.W.Frag) : Sp := fun vs H Q _ => ∃ (H0 : Hp) (b t k : Addr) (m : Str) (i : Nat) (r : RuleL) (d : Int) (rs : List RuleL) (x : BoxS × ToldS) (n : Nat), vs = [.ref b, .ref k, .str m, .ref t] ∧ BTx K H0 H b t x ∧ BookAt K H0 k d rs ∧ moms[i]? = some m ∧ rs[i]? = some r ∧
  r.length ≤ 6 ∧ Bd n x ∧ n < 999900 ∧ ∀ H', BTx K H0 H' b t (carry r m x) → Q .non H'
theorem BTx.same {K : PySem.W.Frag} {H0 H : Hp} {b t : Addr} {x : BoxS × ToldS} (h : BTx K H0 H b t x) : Same H0 H := by
  obtain ⟨dx, li, dv, ds, dr, dt, yb, ll, lg, lw, lm, h⟩ := h
  exact h.same
set_option maxHeartbeats 2000000 in
theorem ok_Box_carry_out (T : Txt K mg) {fd : FuncData} (F : FunD K d_Box_carry_out.name d_Box_carry_out.qual d_Box_carry_out.params d_Box_carry_out.body d_Box_carry_out.scope (d_Box_carry_out.dvs K) (d_Box_carry_out.kws K) (He.fAd K d_Box_carry_out.at_) fd) : FnOk P w K mg base C8.CX0 3 (He.fAd K d_Box_carry_out.at_) fd ["self", "book", "moment", "told"] (sp_Box_carry_out K) := by
  have c_Book_rule := c_Book_rule (P := P) (w := w) (base := base) T
  have c_Box_act := c_Box_act (P := P) (w := w) (base := base) T
  refine F.ok sc_Box_carry_out (fun vs H Q E h => ?_) (fun cdv A outer s H vs Q E hr h => ?_)
  · obtain ⟨H0, b, t, k, m, i, r, d, rs, x, n, rfl, _⟩ := h
    rfl
  · have hu := L2.hu_of hr
    obtain ⟨H0, b, t, k, m, i, r, d, rs, ⟨S, U⟩, n, rfl, hx, hk, hm, hr1, h6, bd, hn, q⟩ := h
    refine ⟨_, (PSs.nox ((pss_cons (ps_expr (My.pe_bmK (K := K) rfl PySem.F.plainAttrs_list PySem.F.slot_list_append PySem.F.type_list_append mt_append (My.pe_fldK (K := K) rfl (pv 3) rfl) (pa_cons (pv 2) pa_nil)))
  (pss_one (ps_for PassesOwn.never rfl (My.pi_tupK (K := K) rfl (C8.pe_mt c_Book_rule hr (by decide) (pv 1) (pa_cons (pv 2) pa_nil))) (pg_name (i := 4) sc_Box_carry_out.nd rfl (by first | exact Or.inl rfl | exact Or.inr rfl))
  (pss_one (ps_expr (C8.pe_mt c_Box_act hr (by decide) (pv 0) (pa_cons (pv 4) (pa_cons (pv 3) pa_nil)))))))))), ?_⟩
    obtain ⟨dx, li, dv, ds, dr, dt, yb, ll, lg, lw, lm, h⟩ := id hx
    refine ⟨_, rfl, t, _, dt, _, _, rfl, h.ht, T.cl_Told, T.no_Told_moments, rfl, .inl ⟨rfl, _, SqL.of h.hlm⟩, _, rfl, lm, _, _, rfl, rfl, h.hlm, ?_, ?_⟩
    · rw [List.length_map]
      exact lt_line (by show U.moments.length ≤ 1000000; have z : U.moments.length ≤ n := bd.m; omega)
    have h1 := h.set_lm (T' := { U with moments := U.moments ++ [m] }) rfl
    have e4 : U.moments.map V.str ++ [V.str m] = (U.moments ++ [m]).map V.str := by rw [List.map_append]; rfl
    rw [e4]
    have hx1 : BTx K H0 (upd H lm (.lst ((U.moments ++ [m]).map V.str))) b t (S, { U with moments := U.moments ++ [m] }) := ⟨dx, li, dv, ds, dr, dt, yb, ll, lg, lw, lm, h1⟩
    obtain ⟨dk, tk, ak, hkb, _⟩ := id (hk.same hx1.same)
    refine ⟨_, rfl, k, dk, _, rfl, hkb, rfl, _, rfl, H0, k, d, rs, m, i, r, rfl, hx1.same, hk, hm, hr1, fun a ha => ?_⟩
    have hbd : ∀ j, Bd (n + 1 + j) ((r.take j).foldl act (S, { U with moments := U.moments ++ [m] })) := fun j => (((bd.mom m).foldl (r.take j)).mono (by rw [List.length_take]; omega))
    refine ⟨a, rfl, ⟨_, same_tup hx1.same ha⟩, for_tup (K := K) (xs := r.map V.str) (fun j σ H' => ∃ u, σ = [some (.ref b), some (.ref k), some (.str m), some (.ref t), u] ∧ BTx K H0 H' b t ((r.take j).foldl act (S, { U with moments := U.moments ++ [m] }))) ⟨_, rfl, hx1⟩ (fun j σ H' _ ⟨_, _, z⟩ => same_tup z.same ha) ?_ ?_⟩
    · rintro j y σ H2 hj ⟨u, rfl, hx2⟩
      obtain ⟨z, hz, rfl⟩ := map_get hj
      have hlt : j < r.length := (List.getElem?_eq_some_iff.mp hz).1
      obtain ⟨dx2, li2, dv2, ds2, dr2, dt2, yb2, ll2, lg2, lw2, lm2, h2⟩ := id hx2
      refine ⟨_, rfl, b, dx2, _, rfl, h2.hb, rfl, _, rfl, _, rfl, H0, b, t, z, _, n + 1 + j, rfl, hx2, hbd j, by omega, fun H3 hx3 => ?_⟩
      refine ⟨_, rfl, ?_⟩
      rw [take_more hz, List.foldl_append]
      exact hx3
    · rintro σ H2 ⟨u, rfl, hx2⟩
      rw [List.length_map, List.take_length] at hx2
      exact q _ hx2
theorem c_Box_carry_out (T : Txt K mg) : C8.Met P w K mg base 3 (He.ga K "Box") "_carry_out" (sp_Box_carry_out K) [] := by
  obtain ⟨fd, F⟩ := T.f_Box_carry_out
  exact ⟨_, fd, _, _, T.cl_Box, T.m_Box_carry_out, ok_Box_carry_out T F, F.bindsN (fun _ _ _ _ _ _ us hl => match us, hl with | [_, _, _, _], _ => rfl), .nil⟩
/-- the last step of a bring, a code -/
def goAway (sh : Bool) (m1 m2 : Str) (r1 r2 : RuleL) (x : BoxS × ToldS) : BoxS × ToldS :=
  if x.1.ajar = true then (if sh = true then carry r1 m1 ({ x.1 with ajar := false }, x.2) else carry r2 m2 x) else x
theorem Bd.go {n : Nat} {x : BoxS × ToldS} (h : Bd n x) {sh : Bool} {m1 m2 : Str} {r1 r2 : RuleL} (h1 : r1.length ≤ 6) (h2 : r2.length ≤ 6) : Bd (n + 7) (goAway sh m1 m2 r1 r2 x) := by
  unfold goAway
  split
  · split
    · exact (Bd.carry (x := ({ x.1 with ajar := false }, x.2)) ⟨h.i, h.v, h.s, h.r, h.l, h.w, h.m⟩ r1 m1).mono (by omega)
    · exact (h.carry r2 m2).mono (by omega)
  · exact h.mono (by omega)
def sp_Box_go_away (K : PySem.W.Frag) : Sp := fun vs H Q _ => ∃ (H0 : Hp) (b t k g : Addr) (sh : Bool) (m1 m2 : Str) (i1 i2 : Nat) (r1 r2 : RuleL) (d : Int) (rs : List RuleL) (x : BoxS × ToldS) (n : Nat), vs = [.ref b, .ref k, .bl sh, .ref g, .ref t] ∧ BTx K H0 H b t x ∧ BookAt K H0 k d rs ∧
  SqT K H g [.str m1, .str m2] ∧ moms[i1]? = some m1 ∧ rs[i1]? = some r1 ∧ r1.length ≤ 6 ∧ moms[i2]? = some m2 ∧ rs[i2]? = some r2 ∧ r2.length ≤ 6 ∧ Bd n x ∧ n < 999000 ∧ ∀ H', BTx K H0 H' b t (goAway sh m1 m2 r1 r2 x) → Q .non H'
set_option maxHeartbeats 2000000 in
theorem ok_Box_go_away (T : Txt K mg) {fd : FuncData} (F : FunD K d_Box_go_away.name d_Box_go_away.qual d_Box_go_away.params d_Box_go_away.body d_Box_go_away.scope (d_Box_go_away.dvs K) (d_Box_go_away.kws K) (He.fAd K d_Box_go_away.at_) fd) : FnOk P w K mg base C8.CX0 4 (He.fAd K d_Box_go_away.at_) fd ["self", "book", "shuts", "moments", "told"] (sp_Box_go_away K) := by
  have c_Box_carry_out := c_Box_carry_out (P := P) (w := w) (base := base) T
  refine F.ok sc_Box_go_away (fun vs H Q E h => ?_) (fun cdv A outer s H vs Q E hr h => ?_)
  · obtain ⟨H0, b, t, k, g, sh, m1, m2, i1, i2, r1, r2, d, rs, x, n, rfl, _⟩ := h
    rfl
  · have hu := L2.hu_of hr
    obtain ⟨H0, b, t, k, g, sh, m1, m2, i1, i2, r1, r2, d, rs, ⟨S, U⟩, n, rfl, hx, hk, hg, hm1, hr1, hl1, hm2, hr2, hl2, bd, hn, q⟩ := h
    refine ⟨_, (PSs.nox ((pss_cons (ps_if (pt_not (pt_val (My.pe_fldK (K := K) rfl (pv 0) rfl)))
  (pss_one ps_retN)
  pss_nil)
  (pss_cons (ps_asg (pv 3) (My.pg_tupK (K := K) (n := 2) rfl rfl (pgs_cons (pg_name (i := 5) sc_Box_go_away.nd rfl (by first | exact Or.inl rfl | exact Or.inr rfl)) (pgs_cons (pg_name (i := 6) sc_Box_go_away.nd rfl (by first | exact Or.inl rfl | exact Or.inr rfl)) pgs_nil))))
  (pss_one (ps_if (pt_val (pv 2))
  (pss_cons (ps_fld (pv 0) pe_bl rfl)
  (pss_one (ps_expr (C8.pe_mt c_Box_carry_out hr (by decide) (pv 0) (pa_cons (pv 1) (pa_cons (pv 5) (pa_cons (pv 4) pa_nil)))))))
  (pss_one (ps_expr (C8.pe_mt c_Box_carry_out hr (by decide) (pv 0) (pa_cons (pv 1) (pa_cons (pv 6) (pa_cons (pv 4) pa_nil)))))))))))), ?_⟩
    obtain ⟨dx, li, dv, ds, dr, dt, yb, ll, lg, lw, lm, h⟩ := id hx
    refine ⟨_, rfl, b, _, dx, _, _, rfl, h.hb, T.cl_Box, T.no_Box_ajar, rfl, _, rfl, ?_⟩
    unfold goAway at q
    have e1 : S.ajar = (S, U).1.ajar := rfl
    cases c : S.ajar with
    | false =>
      rw [if_neg (by rw [← e1, c]; exact Bool.false_ne_true)] at q
      exact q _ hx
    | true =>
      rw [if_pos (by rw [← e1, c])] at q
      refine ⟨_, rfl, g, _, rfl, hg, rfl, _, _, rfl, _, _, rfl, rfl, ?_⟩
      refine ⟨_, rfl, _, rfl, ?_⟩
      cases sh with
      | true =>
        rw [if_pos rfl] at q
        refine ⟨_, rfl, b, _, dx, _, rfl, h.hb, T.cl_Box, T.no_Box_ajar, (by show 8 < 1000; decide), ?_⟩
        have h1 := h.set_b (S' := { S with ajar := false }) rfl rfl rfl rfl
        have hx1 : BTx K H0 _ b t ({ S with ajar := false }, U) := ⟨dx, li, dv, ds, dr, dt, yb, ll, lg, lw, lm, h1⟩
        exact ⟨_, rfl, b, dx, _, rfl, upd_same, rfl, _, rfl, _, rfl, _, rfl, H0, b, t, k, m1, i1, r1, d, rs, _, n, rfl, hx1, hk, hm1, hr1, hl1, ⟨bd.i, bd.v, bd.s, bd.r, bd.l, bd.w, bd.m⟩, by omega, q⟩
      | false =>
        rw [if_neg Bool.false_ne_true] at q
        exact ⟨_, rfl, b, dx, _, rfl, h.hb, rfl, _, rfl, _, rfl, _, rfl, H0, b, t, k, m2, i2, r2, d, rs, _, n, rfl, hx, hk, hm2, hr2, hl2, bd, by omega, q⟩
theorem c_Box_go_away (T : Txt K mg) : C8.Met P w K mg base 4 (He.ga K "Box") "_go_away" (sp_Box_go_away K) [] := by
  obtain ⟨fd, F⟩ := T.f_Box_go_away
  exact ⟨_, fd, _, _, T.cl_Box, T.m_Box_go_away, ok_Box_go_away T F, F.bindsN (fun _ _ _ _ _ _ us hl => match us, hl with | [_, _, _, _, _], _ => rfl), .nil⟩
/-- somebody takes all that lies here -/
def letTake (own : Option Int) (x : BoxS × ToldS) : BoxS × ToldS :=
  ({ x.1 with inside := [], served := match own with
      | some p => if p ∈ x.1.inside then ins p x.1.served else x.1.served
      | none => x.1.served },
   { x.2 with got := x.1.inside, wrongs := if x.1.inside.any (fun p => decide (some p ≠ own)) = true then x.2.wrongs ++ [("wrong" : Str)] else x.2.wrongs })
theorem Bd.take {n : Nat} {x : BoxS × ToldS} (h : Bd n x) (own : Option Int) : Bd (n + 1) (letTake own x) := by
  have h1 := h.mono (Nat.le_succ n)
  refine ⟨Nat.zero_le _, h1.v, h1.s, ?_, h1.l, ?_, h1.m⟩
  · have := h.r
    unfold letTake
    cases own with
    | none => exact h1.r
    | some p =>
      show (if p ∈ x.1.inside then ins p x.1.served else x.1.served).length ≤ n + 1
      have := ins_len p x.1.served
      split <;> omega
  · have := h.w
    show (if x.1.inside.any (fun p => decide (some p ≠ own)) = true then x.2.wrongs ++ [("wrong" : Str)] else x.2.wrongs).length ≤ n + 1
    split
    · rw [List.length_append]
      show x.2.wrongs.length + 1 ≤ n + 1
      omega
    · omega
end
end K25

namespace K25
open PySem PySem.Spec PyProof.Rows L2 My
theorem inV_int (p : Int) (l : List Int) : inV (.int p) (l.map V.int) = decide (p ∈ l) := by
  induction l with
  | nil => rfl
  | cons a l ih =>
    show (eqV (.int a) (.int p) || inV (.int p) (l.map V.int)) = _
    rw [ih]
    show ((a == p) || decide (p ∈ l)) = _
    by_cases e : a = p
    · subst e; simp
    · have e2 : ¬ p = a := fun z => e z.symm
      simp [e, e2]
theorem inV_non (l : List Int) : inV .non (l.map V.int) = false := by
  induction l with
  | nil => rfl
  | cons a l ih =>
    show (eqV (.int a) .non || inV .non (l.map V.int)) = _
    rw [ih]
    rfl
theorem all_flat_int (l : List Int) : (l.map V.int).all flatV = true := by
  rw [List.all_map]
  exact List.all_eq_true.mpr fun _ _ => rfl
theorem BT.to {K : PySem.W.Frag} {H0 H H' : Hp} {b dx li dv ds dr : Addr} {S : BoxS} {t dt : Addr} {yb : Bool} {ll lg lw lm : Addr} {U : ToldS} (h : BT K H0 H b dx li dv ds dr S t dt yb ll lg lw lm U) (s : Same H H') : BT K H0 H' b dx li dv ds dr S t dt yb ll lg lw lm U :=
  ⟨h.same.trans s, h.nd, h.new, s _ _ h.hb, s _ _ h.hli, s _ _ h.hdv, s _ _ h.hds, s _ _ h.hdr, s _ _ h.ht, s _ _ h.hll, s _ _ h.hlg, s _ _ h.hlw, s _ _ h.hlm⟩
section
variable {P : Program} {w : World} {K : PySem.W.Frag} {mg : Str → Option Value} {base : Heap}
def sp_Box_let_take (K : PySem.W.Frag) : Sp := fun vs H Q _ => ∃ (H0 : Hp) (b t : Addr) (own : Option Int) (x : BoxS × ToldS) (n : Nat), vs = [.ref b, oV own, .ref t] ∧ BTx K H0 H b t x ∧ Bd n x ∧ n < 999000 ∧ ∀ H', BTx K H0 H' b t (letTake own x) → Q .non H'
set_option maxHeartbeats 2000000 in
theorem ok_Box_let_take (T : Txt K mg) {fd : FuncData} (F : FunD K d_Box_let_take.name d_Box_let_take.qual d_Box_let_take.params d_Box_let_take.body d_Box_let_take.scope (d_Box_let_take.dvs K) (d_Box_let_take.kws K) (He.fAd K d_Box_let_take.at_) fd) : FnOk P w K mg base C8.CX0 1 (He.fAd K d_Box_let_take.at_) fd ["self", "own", "told"] (sp_Box_let_take K) := by
  refine F.ok sc_Box_let_take (fun vs H Q E h => ?_) (fun cdv A outer s H vs Q E hr h => ?_)
  · obtain ⟨H0, b, t, own, x, n, rfl, _⟩ := h
    rfl
  · have hu := L2.hu_of hr
    obtain ⟨H0, b, t, own, ⟨S, U⟩, n, rfl, ⟨dx, li, dv, ds, dr, dt, yb, ll, lg, lw, lm, h⟩, bd, hn, q⟩ := h
    refine ⟨_, (PSs.nox ((pss_cons (ps_fld (pv 2) (My.pe_fldK (K := K) rfl (pv 0) rfl) rfl)
  (pss_cons (ps_fld (pv 0) (pe_lst pa_nil) rfl)
  (pss_cons (ps_if (pt_cmpR (My.in_seqK (K := K) rfl) (pv 1) (My.pe_fldK (K := K) rfl (pv 2) rfl) (by rfl))
  (pss_one (ps_dput hu (My.pe_fldK (K := K) rfl (pv 0) rfl) (pv 1) pe_bl rfl))
  pss_nil)
  (pss_one (ps_if (pt_val (pe_callB (My.anyK (K := K) rfl rfl) (by rfl) T.any (by decide +kernel) (pa_cons (pe_lc (own := [("parcel", 3)]) (g := (gName 3)) (tt := tYes) (by rfl) sc_Box_let_take.nd (My.pi_listK (K := K) rfl (My.pe_fldK (K := K) rfl (pv 2) rfl)) (blkOk_by (N := N_Box_let_take) (sc := defScope s_Box_let_take) (by decide +kernel)) (fun _ _ _ _ _ => (pg_name (i := 3) sc_Box_let_take.nd rfl (by first | exact Or.inl rfl | exact Or.inr rfl))) (fun _ _ _ _ _ => pts_nil) (fun _ _ _ _ _ => (pe_cmpR op_ne (pv 3) (pv 1) (nomark _)))) pa_nil)))
  (pss_one (ps_expr (My.pe_bmK (K := K) rfl PySem.F.plainAttrs_list PySem.F.slot_list_append PySem.F.type_list_append mt_append (My.pe_fldK (K := K) rfl (pv 2) rfl) (pa_cons pe_str pa_nil))))
  pss_nil))))))), ?_⟩
    have nbt : b ≠ t := nd_ne h.nd (i := 0) (j := 5) rfl rfl (by decide)
    refine ⟨_, rfl, b, _, dx, _, _, rfl, h.hb, T.cl_Box, T.no_Box_inside, rfl, _, rfl, t, _, dt, _, rfl, h.ht, T.cl_Told, T.no_Told_got, (by show 6 < 1000; decide), ?_⟩
    refine ⟨Nat.zero_le _, fun p hp => ?_⟩
    have npt : p ≠ t := by
      intro z
      rw [z, upd_same] at hp
      cases hp
    rw [upd_ne npt] at hp
    have h1 := h.hand hp
    have npb : b ≠ p := ne_of_none h.hb hp
    refine ⟨_, rfl, b, _, dx, _, rfl, (by rw [upd_ne npb, upd_ne nbt]; exact h.hb), T.cl_Box, T.no_Box_inside, (by show 8 < 1000; decide), ?_⟩
    refine ⟨_, rfl, _, rfl, t, _, dt, _, _, rfl, h1.ht, T.cl_Told, T.no_Told_got, rfl, li, _, rfl, .inl (SqL.of h1.hlg), ?_, all_flat_int _, _, rfl, ?_⟩
    · cases own <;> rfl
    let W : List Str := if S.inside.any (fun p => decide (some p ≠ own)) = true then U.wrongs ++ [("wrong" : Str)] else U.wrongs
    -- what is left: any(..), wrongs.append
    have last : ∀ (H1 : Hp) (S1 : BoxS), BT K H0 H1 b dx p dv ds dr S1 t dt yb ll li lw lm { U with got := S.inside } →
        (∀ H', BTx K H0 H' b t (S1, { U with got := S.inside, wrongs := W }) → Q .non H') →
        tIfS (tB (tCB (rAny K) (tCons (tLc (iList K (tFld K (tVar 2) "got")) (gName 3) tYes (tOp rNe (tVar 3) (tVar 1)) [3]) tNil))) (tSeq (tDrop (tBM K "list" rAppend (tFld K (tVar 2) "wrongs") (tCons (tC (.str "wrong")) tNil))) tNext) tNext
          { nx := fun _ H' => Q .non H', rt := Q } [some (.ref b), some (oV own), some (.ref t), none] H1 := by
      intro H1 S1 h2 q2
      have sl := h2.hlg
      refine ⟨_, rfl, t, _, dt, _, _, rfl, h2.ht, T.cl_Told, T.no_Told_got, rfl, li, rfl, ⟨_, SqL.of sl⟩, fun D hD => lc_list (K := K) (a := li) (xs := S.inside.map V.int) (fun i H' => Same H1 H' ∧ H' D = some (.lst (((S.inside.take i).map (fun p => decide (some p ≠ own))).map V.bl))) ⟨same_new hD, upd_same⟩ (fun i H' _ z => SqL.of (z.1 _ _ sl)) ?_ ?_⟩
      · rintro i y H2 hi ⟨s2, hD2⟩
        obtain ⟨z, hz, rfl⟩ := map_get hi
        refine ⟨rfl, ?_⟩
        refine ⟨_, rfl, _, rfl, by cases own <;> rfl, _, hD2, ?_, same_upd s2 hD, ?_⟩
        · rw [List.length_map, List.length_map, List.length_take]
          have zz : S.inside.length ≤ n := bd.i
          exact lt_line (by omega)
        · rw [upd_same, take_more hz, List.map_append, List.map_append]
          have e : (!decide (V.int z = oV own)) = decide (some z ≠ own) := by
            cases own with
            | none => rfl
            | some k =>
              by_cases c : z = k
              · subst c
                simp [oV]
              · have c2 : ¬ V.int z = V.int k := fun e => c (V.int.inj e)
                simp [oV, c, c2]
          rw [e]
          rfl
      · rintro H2 ⟨s2, hD2⟩
        rw [List.length_map, List.take_length] at hD2
        refine ⟨D, _, rfl, SqL.of hD2, _, rfl, ?_⟩
        have h3 := h2.to s2
        have e : (S.inside.map (fun p => decide (some p ≠ own))).any id = S.inside.any (fun p => decide (some p ≠ own)) := by rw [List.any_map]; rfl
        rw [e]
        cases c : S.inside.any (fun p => decide (some p ≠ own)) with
        | false =>
          have eW : W = U.wrongs := if_neg (by rw [c]; exact Bool.false_ne_true)
          rw [eW] at q2
          exact q2 _ ⟨dx, p, dv, ds, dr, dt, yb, ll, li, lw, lm, h3⟩
        | true =>
          have eW : W = U.wrongs ++ [("wrong" : Str)] := if_pos c
          rw [eW] at q2
          refine ⟨_, rfl, t, _, dt, _, _, rfl, h3.ht, T.cl_Told, T.no_Told_wrongs, rfl, .inl ⟨rfl, _, SqL.of h3.hlw⟩, lw, _, _, rfl, rfl, h3.hlw, ?_, ?_⟩
          · have zz : U.wrongs.length ≤ n := bd.w
            rw [List.length_map]
            exact lt_line (by show U.wrongs.length ≤ 1000000; omega)
          · have h4 := h3.set_lw (T' := { U with got := S.inside, wrongs := U.wrongs ++ [("wrong" : Str)] }) rfl
            have e4 : U.wrongs.map V.str ++ [V.str "wrong"] = (U.wrongs ++ [("wrong" : Str)]).map V.str := by rw [List.map_append]; rfl
            show Q .non (upd H2 lw (.lst (U.wrongs.map V.str ++ [V.str "wrong"])))
            rw [e4]
            exact q2 _ ⟨dx, p, dv, ds, dr, dt, yb, ll, li, lw, lm, h4⟩
    cases own with
    | none =>
      show (if (if false = true then !inV V.non (S.inside.map V.int) else inV V.non (S.inside.map V.int)) = true then _ else _)
      rw [if_neg Bool.false_ne_true, inV_non]
      exact last _ _ h1 q
    | some o =>
      show (if (if false = true then !inV (.int o) (S.inside.map V.int) else inV (.int o) (S.inside.map V.int)) = true then _ else _)
      rw [if_neg Bool.false_ne_true, inV_int]
      have e0 : letTake (some o) (S, U) = ({ S with inside := [], served := if o ∈ S.inside then ins o S.served else S.served }, { U with got := S.inside, wrongs := W }) := rfl
      rw [e0] at q
      by_cases c : o ∈ S.inside
      · rw [decide_eq_true c, if_pos rfl]
        rw [if_pos c] at q
        refine ⟨_, rfl, b, _, dx, _, _, rfl, h1.hb, T.cl_Box, T.no_Box_served, rfl, _, rfl, dr, _, rfl, DPut.k (k := Sum.inl o) h1.hdr (by rw [kvT_len]; exact lt_line (by show S.served.length ≤ 1000000; have zz : S.served.length ≤ n := bd.r; omega)), ?_⟩
        rw [putK_kvT]
        exact last _ _ (h1.set_dr (S' := { S with inside := [], served := ins o S.served }) rfl) q
      · rw [decide_eq_false c, if_neg Bool.false_ne_true]
        rw [if_neg c] at q
        exact last _ _ h1 q
theorem c_Box_let_take (T : Txt K mg) : C8.Met P w K mg base 1 (He.ga K "Box") "_let_take" (sp_Box_let_take K) [] := by
  obtain ⟨fd, F⟩ := T.f_Box_let_take
  exact ⟨_, fd, _, _, T.cl_Box, T.m_Box_let_take, ok_Box_let_take T F, F.bindsN (fun _ _ _ _ _ _ us hl => match us, hl with | [_, _, _], _ => rfl), .nil⟩
end
end K25

namespace K25
open PySem PySem.Spec PyProof.Rows L2 My
/-- a box alone, over a heap in which none of it stands -/
structure BxA (K : PySem.W.Frag) (H0 H : Hp) (b dx li dv ds dr : Addr) (S : BoxS) : Prop where
  same : Same H0 H
  nd : [b, li, dv, ds, dr].Nodup
  new : ∀ a ∈ [b, li, dv, ds, dr], H0 a = none
  hb : H b = some (.ins (He.ga K "Box") dx (bxf S li dv ds dr))
  hli : H li = some (.lst (S.inside.map V.int))
  hdv : H dv = some (.dK (kvT S.valid))
  hds : H ds = some (.dK (kvT S.sent))
  hdr : H dr = some (.dK (kvT S.served))
def Bx (K : PySem.W.Frag) (H0 H : Hp) (b : Addr) (S : BoxS) : Prop := ∃ dx li dv ds dr, BxA K H0 H b dx li dv ds dr S
def T0 : ToldS := ⟨[], false, [], [], []⟩
def S0 : BoxS := ⟨false, [], "free", [], none, none, [], []⟩
section
variable {P : Program} {w : World} {K : PySem.W.Frag} {mg : Str → Option Value} {base : Heap}
def sp_Told_init (K : PySem.W.Frag) : Sp := fun vs H Q _ => ∃ (t dt : Addr), vs = [.ref t] ∧ H t = some (.ins (He.ga K "Told") dt []) ∧
  ∀ H' ll lg lw lm, But [t] H H' → [ll, lg, lw, lm].Nodup → (∀ a ∈ [ll, lg, lw, lm], H a = none) → H' t = some (.ins (He.ga K "Told") dt (tdf T0 false ll lg lw lm)) → H' ll = some (.lst []) → H' lg = some (.lst []) → H' lw = some (.lst []) → H' lm = some (.lst []) → Q .non H'
theorem up_none {H : Hp} {a b : Addr} {o : HO} (h : upd H a o b = none) : b ≠ a ∧ H b = none := by
  have n : b ≠ a := by
    intro z
    rw [z, upd_same] at h
    cases h
  rw [upd_ne n] at h
  exact ⟨n, h⟩
set_option maxHeartbeats 2000000 in
theorem ok_Told_init (T : Txt K mg) {fd : FuncData} (F : FunD K d_Told_init.name d_Told_init.qual d_Told_init.params d_Told_init.body d_Told_init.scope (d_Told_init.dvs K) (d_Told_init.kws K) (He.fAd K d_Told_init.at_) fd) : FnOk P w K mg base C8.CX0 1 (He.fAd K d_Told_init.at_) fd ["self"] (sp_Told_init K) := by
  refine F.ok sc_Told_init (fun vs H Q E h => ?_) (fun cdv A outer s H vs Q E hr h => ?_)
  · obtain ⟨t, dt, rfl, _⟩ := h
    rfl
  · have hu := L2.hu_of hr
    obtain ⟨t, dt, rfl, ht, q⟩ := h
    refine ⟨_, (PSs.nox ((pss_cons (ps_fld (pv 0) (pe_lst pa_nil) rfl)
  (pss_cons (ps_fld (pv 0) pe_bl rfl)
  (pss_cons (ps_fld (pv 0) (pe_lst pa_nil) rfl)
  (pss_cons (ps_fld (pv 0) pe_bl rfl)
  (pss_cons (ps_fld (pv 0) (pe_lst pa_nil) rfl)
  (pss_one (ps_fld (pv 0) (pe_lst pa_nil) rfl))))))))), ?_⟩
    refine ⟨Nat.zero_le _, fun p1 h1 => ?_⟩
    have n1 : t ≠ p1 := ne_of_none ht h1
    refine ⟨_, rfl, t, _, dt, _, rfl, (by rw [upd_ne n1]; exact ht), T.cl_Told, T.no_Told_letters, (by show 0 < 1000; decide), ?_⟩
    refine ⟨_, rfl, t, _, dt, _, rfl, upd_same, T.cl_Told, T.no_Told_opened, (by show 1 < 1000; decide), ?_⟩
    refine ⟨Nat.zero_le _, fun p2 h2 => ?_⟩
    obtain ⟨a2, h2⟩ := up_none h2
    obtain ⟨_, h2⟩ := up_none h2
    obtain ⟨b2, h2⟩ := up_none h2
    refine ⟨_, rfl, t, _, dt, _, rfl, (by rw [upd_ne a2.symm]; exact upd_same), T.cl_Told, T.no_Told_got, (by show 2 < 1000; decide), ?_⟩
    refine ⟨_, rfl, t, _, dt, _, rfl, upd_same, T.cl_Told, T.no_Told_lays, (by show 3 < 1000; decide), ?_⟩
    refine ⟨Nat.zero_le _, fun p3 h3 => ?_⟩
    obtain ⟨a3, h3⟩ := up_none h3
    obtain ⟨_, h3⟩ := up_none h3
    obtain ⟨c3, h3⟩ := up_none h3
    obtain ⟨_, h3⟩ := up_none h3
    obtain ⟨_, h3⟩ := up_none h3
    obtain ⟨b3, h3⟩ := up_none h3
    refine ⟨_, rfl, t, _, dt, _, rfl, (by rw [upd_ne a3.symm]; exact upd_same), T.cl_Told, T.no_Told_wrongs, (by show 4 < 1000; decide), ?_⟩
    refine ⟨Nat.zero_le _, fun p4 h4 => ?_⟩
    obtain ⟨a4, h4⟩ := up_none h4
    obtain ⟨d4, h4⟩ := up_none h4
    obtain ⟨_, h4⟩ := up_none h4
    obtain ⟨_, h4⟩ := up_none h4
    obtain ⟨c4, h4⟩ := up_none h4
    obtain ⟨_, h4⟩ := up_none h4
    obtain ⟨_, h4⟩ := up_none h4
    obtain ⟨b4, h4⟩ := up_none h4
    refine ⟨_, rfl, t, _, dt, _, rfl, (by rw [upd_ne a4.symm]; exact upd_same), T.cl_Told, T.no_Told_moments, (by show 5 < 1000; decide), ?_⟩
    have nt : t ∈ [t] := by simp
    refine q _ p1 p2 p3 p4 ?_ ?_ ?_ upd_same ?_ ?_ ?_ ?_
    · exact (((((((((((But.refl [t] H).put (.inl h1)).put (.inr nt)).put (.inr nt)).put (.inl h2)).put (.inr nt)).put (.inr nt)).put (.inl h3)).put (.inr nt)).put (.inl h4)).put (.inr nt))
    · simp only [List.nodup_cons, List.mem_cons, List.not_mem_nil, or_false, not_or, not_false_eq_true, List.nodup_nil, and_true]
      exact ⟨⟨b2.symm, b3.symm, b4.symm⟩, ⟨c3.symm, c4.symm⟩, d4.symm⟩
    · intro a ha
      simp only [List.mem_cons, List.not_mem_nil, or_false] at ha
      rcases ha with rfl | rfl | rfl | rfl <;> assumption
    · rw [upd_ne n1.symm, upd_ne b4.symm, upd_ne n1.symm, upd_ne b3.symm, upd_ne n1.symm, upd_ne n1.symm, upd_ne b2.symm, upd_ne n1.symm, upd_ne n1.symm, upd_same]
    · rw [upd_ne a2, upd_ne c4.symm, upd_ne a2, upd_ne c3.symm, upd_ne a2, upd_ne a2, upd_same]
    · rw [upd_ne a3, upd_ne d4.symm, upd_ne a3, upd_same]
    · rw [upd_ne a4, upd_same]
theorem c_Told_init (T : Txt K mg) : C8.Mak P w K mg base 1 "Told" (He.ga K "Told") (sp_Told_init K) [] := by
  obtain ⟨fd, F⟩ := T.f_Told_init
  exact ⟨_, fd, _, _, T.mk_Told, ok_Told_init T F, T.g_Told, F.bindsN (fun _ _ _ _ _ _ us hl => match us, hl with | [_], _ => rfl), .nil⟩
/-- a new told beside the box -/
theorem mkBT {H0 H H' : Hp} {b dx li dv ds dr t dt ll lg lw lm : Addr} {S : BoxS} (h : BxA K H0 H b dx li dv ds dr S) (ht : H t = none) (hdt : H dt = none) (hne : dt ≠ t) (bt : But [t] (upd (upd H dt (.own t)) t (.ins (He.ga K "Told") dt [])) H') (nd : [ll, lg, lw, lm].Nodup)
    (new : ∀ a ∈ [ll, lg, lw, lm], (upd (upd H dt (.own t)) t (.ins (He.ga K "Told") dt [])) a = none) (h1 : H' t = some (.ins (He.ga K "Told") dt (tdf T0 false ll lg lw lm))) (h2 : H' ll = some (.lst [])) (h3 : H' lg = some (.lst [])) (h4 : H' lw = some (.lst [])) (h5 : H' lm = some (.lst [])) :
    BT K H0 H' b dx li dv ds dr S t dt false ll lg lw lm T0 := by
  have s1 : Same H H' := fun c o e => bt c o (by simpa using ne_of_none e ht) (by rw [upd_ne (ne_of_none e ht), upd_ne (ne_of_none e hdt)]; exact e)
  have new2 : ∀ a ∈ [ll, lg, lw, lm], a ≠ t ∧ H a = none := fun a ha => by
    obtain ⟨x1, x2⟩ := up_none (new a ha)
    obtain ⟨_, x3⟩ := up_none x2
    exact ⟨x1, x3⟩
  have old : ∀ a ∈ [b, li, dv, ds, dr], ∃ o, H a = some o := fun a ha => by
    simp only [List.mem_cons, List.not_mem_nil, or_false] at ha
    rcases ha with rfl | rfl | rfl | rfl | rfl
    · exact ⟨_, h.hb⟩
    · exact ⟨_, h.hli⟩
    · exact ⟨_, h.hdv⟩
    · exact ⟨_, h.hds⟩
    · exact ⟨_, h.hdr⟩
  refine ⟨h.same.trans s1, ?_, ?_, s1 _ _ h.hb, s1 _ _ h.hli, s1 _ _ h.hdv, s1 _ _ h.hds, s1 _ _ h.hdr, h1, h2, h3, h4, h5⟩
  · show ([b, li, dv, ds, dr] ++ (t :: [ll, lg, lw, lm])).Nodup
    refine List.nodup_append.mpr ⟨h.nd, List.nodup_cons.mpr ⟨fun z => (new2 t z).1 rfl, nd⟩, fun x hx y hy e => ?_⟩
    subst e
    obtain ⟨o, ho⟩ := old x hx
    rcases List.mem_cons.mp hy with z | z
    · rw [z, ht] at ho
      cases ho
    · rw [(new2 x z).2] at ho
      cases ho
  · intro a ha
    have ha2 : a ∈ [b, li, dv, ds, dr] ++ (t :: [ll, lg, lw, lm]) := ha
    rcases List.mem_append.mp ha2 with z | z
    · exact h.new a z
    · rcases List.mem_cons.mp z with z | z
      · rw [z]
        exact h.same.free ht
      · exact h.same.free (new2 a z).2
theorem tupN {H0 H : Hp} {b t p : Addr} {x : BoxS × ToldS} {o : HO} (h : BTx K H0 H b t x) (hp : H p = none) : BTx K H0 (upd H p o) b t x := by
  obtain ⟨dx, li, dv, ds, dr, dt, yb, ll, lg, lw, lm, h⟩ := h
  exact ⟨dx, li, dv, ds, dr, dt, yb, ll, lg, lw, lm, h.to (same_new hp)⟩
end
end K25

namespace K25
open PySem PySem.Spec PyProof.Rows L2 My
def at_ (rs : List RuleL) (i : Nat) : RuleL := (rs[i]?).getD []
structure GoodB (rs : List RuleL) : Prop where
  len : rs.length = 8
  good : ∀ r ∈ rs, GoodRule r
theorem GoodB.get {rs : List RuleL} (h : GoodB rs) {i : Nat} (hi : i < 8) : rs[i]? = some (at_ rs i) := by
  have hl : i < rs.length := by rw [h.len]; exact hi
  unfold at_
  rw [List.getElem?_eq_getElem hl]
  rfl
theorem GoodB.six {rs : List RuleL} (h : GoodB rs) {i : Nat} (hi : i < 8) : (at_ rs i).length ≤ 6 := (h.good _ (List.mem_of_getElem? (h.get hi))).1
def passBy (S : BoxS) : BoxS × ToldS := if S.ajar = true then letTake none (S, T0) else (S, T0)
def dayF (d : Int) (rs : List RuleL) (S : BoxS) : BoxS × ToldS :=
  match S.age with
  | none => (S, T0)
  | some a => if a + 1 = d then carry (at_ rs 6) "late" ({ S with age := some (a + 1) }, T0) else ({ S with age := some (a + 1) }, T0)
def powerF (rs : List RuleL) (S : BoxS) : BoxS × ToldS := carry (at_ rs 7) "power" (S, T0)
def layIn (p : Int) (l : Bool) (x : BoxS × ToldS) : BoxS × ToldS :=
  if l = true ∧ x.1.ajar = true then ({ x.1 with inside := x.1.inside ++ [p] }, { x.2 with wrongs := if x.1.inside.isEmpty = true then x.2.wrongs else x.2.wrongs ++ [("two" : Str)] }) else x
def bringF (rs : List RuleL) (p : Int) (l s : Bool) (S : BoxS) : BoxS × ToldS :=
  if S.tf = "free" then goAway s "laid" "left" (at_ rs 1) (at_ rs 2) (layIn p l (carry (at_ rs 0) "given" ({ S with ajar := true, age := some 0, last := some p }, { T0 with opened := true }))) else (S, T0)
section
variable {P : Program} {w : World} {K : PySem.W.Frag} {mg : Str → Option Value} {base : Heap}
def sp_Box_pass_by (K : PySem.W.Frag) : Sp := fun vs H Q _ => ∃ (H0 : Hp) (b : Addr) (S : BoxS) (n : Nat), vs = [.ref b] ∧ Bx K H0 H b S ∧ Bd n (S, T0) ∧ n < 900000 ∧ ∀ H' t, BTx K H0 H' b t (passBy S) → Q (.ref t) H'
set_option maxHeartbeats 2000000 in
theorem ok_Box_pass_by (T : Txt K mg) {fd : FuncData} (F : FunD K d_Box_pass_by.name d_Box_pass_by.qual d_Box_pass_by.params d_Box_pass_by.body d_Box_pass_by.scope (d_Box_pass_by.dvs K) (d_Box_pass_by.kws K) (He.fAd K d_Box_pass_by.at_) fd) : FnOk P w K mg base C8.CX0 3 (He.fAd K d_Box_pass_by.at_) fd ["self"] (sp_Box_pass_by K) := by
  have c_Box_let_take := c_Box_let_take (P := P) (w := w) (base := base) T
  have c_Told_init := c_Told_init (P := P) (w := w) (base := base) T
  refine F.ok sc_Box_pass_by (fun vs H Q E h => ?_) (fun cdv A outer s H vs Q E hr h => ?_)
  · obtain ⟨H0, b, S, n, rfl, _⟩ := h
    rfl
  · have hu := L2.hu_of hr
    obtain ⟨H0, b, S, n, rfl, ⟨dx, li, dv, ds, dr, hB⟩, bd, hn, q⟩ := h
    refine ⟨_, (PSs.nox ((pss_cons (ps_set (i := 1) sc_Box_pass_by.nd rfl (by first | exact Or.inl rfl | exact Or.inr rfl) (My.pe_mk0 c_Told_init hr (by decide) rfl))
  (pss_cons (ps_if (pt_val (My.pe_fldK (K := K) rfl (pv 0) rfl))
  (pss_one (ps_expr (C8.pe_mt c_Box_let_take hr (by decide) (pv 0) (pa_cons pe_non (pa_cons (pv 1) pa_nil)))))
  pss_nil)
  (pss_one (ps_ret (pv 1))))))), ?_⟩
    intro t dt nt ndt nex
    refine ⟨t, dt, rfl, upd_same, fun H1 ll lg lw lm bt nd new h1 h2 h3 h4 h5 => ⟨rfl, ?_⟩⟩
    have h := mkBT hB nt ndt nex bt nd new h1 h2 h3 h4 h5
    refine ⟨_, rfl, b, _, dx, _, _, rfl, h.hb, T.cl_Box, T.no_Box_ajar, rfl, _, rfl, ?_⟩
    unfold passBy at q
    cases c : S.ajar with
    | false =>
      rw [if_neg (by rw [c]; exact Bool.false_ne_true)] at q
      exact ⟨_, rfl, q _ _ ⟨dx, li, dv, ds, dr, dt, _, ll, lg, lw, lm, h⟩⟩
    | true =>
      rw [if_pos c] at q
      exact ⟨_, rfl, b, dx, _, rfl, h.hb, rfl, _, rfl, H0, b, t, none, (S, T0), n, rfl, ⟨dx, li, dv, ds, dr, dt, _, ll, lg, lw, lm, h⟩, bd, by omega, fun H2 hx => ⟨_, rfl, q _ _ hx⟩⟩
theorem c_Box_pass_by (T : Txt K mg) : C8.Met P w K mg base 3 (He.ga K "Box") "pass_by" (sp_Box_pass_by K) [] := by
  obtain ⟨fd, F⟩ := T.f_Box_pass_by
  exact ⟨_, fd, _, _, T.cl_Box, T.m_Box_pass_by, ok_Box_pass_by T F, F.bindsN (fun _ _ _ _ _ _ us hl => match us, hl with | [_], _ => rfl), .nil⟩
def sp_Box_power (K : PySem.W.Frag) : Sp := fun vs H Q _ => ∃ (H0 : Hp) (b k : Addr) (d : Int) (rs : List RuleL) (S : BoxS) (n : Nat), vs = [.ref b, .ref k] ∧ Bx K H0 H b S ∧ BookAt K H0 k d rs ∧ GoodB rs ∧ Bd n (S, T0) ∧ n < 900000 ∧ ∀ H' t, BTx K H0 H' b t (powerF rs S) → Q (.ref t) H'
set_option maxHeartbeats 2000000 in
theorem ok_Box_power (T : Txt K mg) {fd : FuncData} (F : FunD K d_Box_power.name d_Box_power.qual d_Box_power.params d_Box_power.body d_Box_power.scope (d_Box_power.dvs K) (d_Box_power.kws K) (He.fAd K d_Box_power.at_) fd) : FnOk P w K mg base C8.CX0 4 (He.fAd K d_Box_power.at_) fd ["self", "book"] (sp_Box_power K) := by
  have c_Box_carry_out := c_Box_carry_out (P := P) (w := w) (base := base) T
  have c_Told_init := c_Told_init (P := P) (w := w) (base := base) T
  refine F.ok sc_Box_power (fun vs H Q E h => ?_) (fun cdv A outer s H vs Q E hr h => ?_)
  · obtain ⟨H0, b, k, d, rs, S, n, rfl, _⟩ := h
    rfl
  · have hu := L2.hu_of hr
    obtain ⟨H0, b, k, d, rs, S, n, rfl, ⟨dx, li, dv, ds, dr, hB⟩, hk, hg, bd, hn, q⟩ := h
    refine ⟨_, (PSs.nox ((pss_cons (ps_set (i := 2) sc_Box_power.nd rfl (by first | exact Or.inl rfl | exact Or.inr rfl) (My.pe_mk0 c_Told_init hr (by decide) rfl))
  (pss_cons (ps_expr (C8.pe_mt c_Box_carry_out hr (by decide) (pv 0) (pa_cons (pv 1) (pa_cons pe_str (pa_cons (pv 2) pa_nil)))))
  (pss_one (ps_ret (pv 2))))))), ?_⟩
    intro t dt nt ndt nex
    refine ⟨t, dt, rfl, upd_same, fun H1 ll lg lw lm bt nd new h1 h2 h3 h4 h5 => ⟨rfl, ?_⟩⟩
    have h := mkBT hB nt ndt nex bt nd new h1 h2 h3 h4 h5
    exact ⟨_, rfl, b, dx, _, rfl, h.hb, rfl, _, rfl, _, rfl, H0, b, t, k, "power", 7, _, d, rs, (S, T0), n, rfl, ⟨dx, li, dv, ds, dr, dt, _, ll, lg, lw, lm, h⟩, hk, rfl, hg.get (by decide), hg.six (by decide), bd, by omega, fun H2 hx => ⟨_, rfl, q _ _ hx⟩⟩
theorem c_Box_power (T : Txt K mg) : C8.Met P w K mg base 4 (He.ga K "Box") "power" (sp_Box_power K) [] := by
  obtain ⟨fd, F⟩ := T.f_Box_power
  exact ⟨_, fd, _, _, T.cl_Box, T.m_Box_power, ok_Box_power T F, F.bindsN (fun _ _ _ _ _ _ us hl => match us, hl with | [_, _], _ => rfl), .nil⟩
def sp_Box_day (K : PySem.W.Frag) : Sp := fun vs H Q _ => ∃ (H0 : Hp) (b k : Addr) (d : Int) (rs : List RuleL) (S : BoxS) (n : Nat), vs = [.ref b, .ref k] ∧ Bx K H0 H b S ∧ BookAt K H0 k d rs ∧ GoodB rs ∧ Bd n (S, T0) ∧ n < 900000 ∧ ∀ H' t, BTx K H0 H' b t (dayF d rs S) → Q (.ref t) H'
set_option maxHeartbeats 2000000 in
theorem ok_Box_day (T : Txt K mg) {fd : FuncData} (F : FunD K d_Box_day.name d_Box_day.qual d_Box_day.params d_Box_day.body d_Box_day.scope (d_Box_day.dvs K) (d_Box_day.kws K) (He.fAd K d_Box_day.at_) fd) : FnOk P w K mg base C8.CX0 4 (He.fAd K d_Box_day.at_) fd ["self", "book"] (sp_Box_day K) := by
  have c_Book_days := c_Book_days (P := P) (w := w) (base := base) T
  have c_Box_carry_out := c_Box_carry_out (P := P) (w := w) (base := base) T
  have c_Told_init := c_Told_init (P := P) (w := w) (base := base) T
  refine F.ok sc_Box_day (fun vs H Q E h => ?_) (fun cdv A outer s H vs Q E hr h => ?_)
  · obtain ⟨H0, b, k, d, rs, S, n, rfl, _⟩ := h
    rfl
  · have hu := L2.hu_of hr
    obtain ⟨H0, b, k, d, rs, S, n, rfl, ⟨dx, li, dv, ds, dr, hB⟩, hk, hg, bd, hn, q⟩ := h
    refine ⟨_, (PSs.nox ((pss_cons (ps_set (i := 2) sc_Box_day.nd rfl (by first | exact Or.inl rfl | exact Or.inr rfl) (My.pe_mk0 c_Told_init hr (by decide) rfl))
  (pss_cons (ps_if (pt_cmpR op_notN (My.pe_fldK (K := K) rfl (pv 0) rfl) pe_non (nomark _))
  (pss_cons (ps_fldaug (pv 0) pe_int in_add)
  (pss_one (ps_if (pt_cmpR op_eq (My.pe_fldK (K := K) rfl (pv 0) rfl) (C8.pe_mt0 c_Book_days hr (by decide) (pv 1)) (nomark _))
  (pss_one (ps_expr (C8.pe_mt c_Box_carry_out hr (by decide) (pv 0) (pa_cons (pv 1) (pa_cons pe_str (pa_cons (pv 2) pa_nil))))))
  pss_nil)))
  pss_nil)
  (pss_one (ps_ret (pv 2))))))), ?_⟩
    intro t dt nt ndt nex
    refine ⟨t, dt, rfl, upd_same, fun H1 ll lg lw lm bt nd new h1 h2 h3 h4 h5 => ⟨rfl, ?_⟩⟩
    have h := mkBT hB nt ndt nex bt nd new h1 h2 h3 h4 h5
    refine ⟨_, rfl, b, _, dx, _, oV S.age, rfl, h.hb, T.cl_Box, T.no_Box_age, rfl, rfl, _, rfl, ?_⟩
    unfold dayF at q
    cases c : S.age with
    | none =>
      simp only [c] at q
      exact ⟨_, rfl, q _ _ ⟨dx, li, dv, ds, dr, dt, _, ll, lg, lw, lm, h⟩⟩
    | some a =>
      simp only [c] at q
      refine ⟨_, rfl, b, _, dx, _, oV S.age, rfl, h.hb, T.cl_Box, T.no_Box_age, rfl, ?_⟩
      rw [c]
      have h2 := h.set_b (S' := { S with age := some (a + 1) }) rfl rfl rfl rfl
      refine ⟨_, _, rfl, rfl, dx, _, h.hb, (by show 8 < 1000; decide), ?_⟩
      have hx2 : BTx K H0 _ b t ({ S with age := some (a + 1) }, T0) := ⟨dx, li, dv, ds, dr, dt, _, ll, lg, lw, lm, h2⟩
      have hk2 := hk.same hx2.same
      obtain ⟨dk, tk, ak, hkb, _⟩ := id hk2
      refine ⟨_, rfl, b, _, dx, _, V.int (a + 1), rfl, h2.hb, T.cl_Box, T.no_Box_age, rfl, _, rfl, k, dk, _, rfl, hkb, rfl, k, d, rs, rfl, hk2, rfl, _, rfl, ?_⟩
      by_cases e : a + 1 = d
      · rw [show decide (V.int (a + 1) = V.int d) = true from decide_eq_true (congrArg V.int e)]
        rw [if_pos e] at q
        exact ⟨_, rfl, b, dx, _, rfl, h2.hb, rfl, _, rfl, _, rfl, H0, b, t, k, "late", 6, _, d, rs, _, n, rfl, hx2, hk, rfl, hg.get (by decide), hg.six (by decide), ⟨bd.i, bd.v, bd.s, bd.r, bd.l, bd.w, bd.m⟩, by omega, fun H2 hx => ⟨_, rfl, q _ _ hx⟩⟩
      · rw [show decide (V.int (a + 1) = V.int d) = false from decide_eq_false (fun z => e (V.int.inj z))]
        rw [if_neg e] at q
        exact ⟨_, rfl, q _ _ hx2⟩
theorem c_Box_day (T : Txt K mg) : C8.Met P w K mg base 4 (He.ga K "Box") "day" (sp_Box_day K) [] := by
  obtain ⟨fd, F⟩ := T.f_Box_day
  exact ⟨_, fd, _, _, T.cl_Box, T.m_Box_day, ok_Box_day T F, F.bindsN (fun _ _ _ _ _ _ us hl => match us, hl with | [_, _], _ => rfl), .nil⟩
def sp_Box_bring (K : PySem.W.Frag) : Sp := fun vs H Q _ => ∃ (H0 : Hp) (b k : Addr) (p : Int) (l s : Bool) (d : Int) (rs : List RuleL) (S : BoxS) (n : Nat), vs = [.ref b, .ref k, .int p, .bl l, .bl s] ∧ Bx K H0 H b S ∧ BookAt K H0 k d rs ∧ GoodB rs ∧ Bd n (S, T0) ∧ n < 900000 ∧ ∀ H' t, BTx K H0 H' b t (bringF rs p l s S) → Q (.ref t) H'
theorem Bd.lay {n : Nat} {x : BoxS × ToldS} (h : Bd n x) {p : Int} {l : Bool} : Bd (n + 1) (layIn p l x) := by
  have h1 := h.mono (Nat.le_succ n)
  unfold layIn
  split
  · refine ⟨?_, h1.v, h1.s, h1.r, h1.l, ?_, h1.m⟩
    · show (x.1.inside ++ [p]).length ≤ n + 1
      rw [List.length_append]
      exact Nat.succ_le_succ h.i
    · show (if x.1.inside.isEmpty = true then x.2.wrongs else x.2.wrongs ++ [("two" : Str)]).length ≤ n + 1
      split
      · exact h1.w
      · rw [List.length_append]
        exact Nat.succ_le_succ h.w
  · exact h1
set_option maxHeartbeats 2000000 in
theorem ok_Box_bring (T : Txt K mg) {fd : FuncData} (F : FunD K d_Box_bring.name d_Box_bring.qual d_Box_bring.params d_Box_bring.body d_Box_bring.scope (d_Box_bring.dvs K) (d_Box_bring.kws K) (He.fAd K d_Box_bring.at_) fd) : FnOk P w K mg base C8.CX0 5 (He.fAd K d_Box_bring.at_) fd ["self", "book", "parcel", "lays", "shuts"] (sp_Box_bring K) := by
  have c_Box_go_away := c_Box_go_away (P := P) (w := w) (base := base) T
  have c_Box_carry_out := c_Box_carry_out (P := P) (w := w) (base := base) T
  have c_Told_init := c_Told_init (P := P) (w := w) (base := base) T
  refine F.ok sc_Box_bring (fun vs H Q E h => ?_) (fun cdv A outer s H vs Q E hr h => ?_)
  · obtain ⟨H0, b, k, p, l, s1, d, rs, S, n, rfl, _⟩ := h
    rfl
  · have hu := L2.hu_of hr
    obtain ⟨H0, b, k, p, l, s1, d, rs, S, n, rfl, ⟨dx, li, dv, ds, dr, hB⟩, hk, hg, bd, hn, q⟩ := h
    refine ⟨_, (PSs.nox ((pss_cons (ps_set (i := 5) sc_Box_bring.nd rfl (by first | exact Or.inl rfl | exact Or.inr rfl) (My.pe_mk0 c_Told_init hr (by decide) rfl))
  (pss_cons (ps_if (pt_cmpR op_ne (My.pe_fldK (K := K) rfl (pv 0) rfl) pe_str (nomark _))
  (pss_one (ps_ret (pv 5)))
  pss_nil)
  (pss_cons (ps_fld (pv 5) pe_bl rfl)
  (pss_cons (ps_fld (pv 0) pe_bl rfl)
  (pss_cons (ps_fld (pv 0) pe_int rfl)
  (pss_cons (ps_fld (pv 0) (pv 2) rfl)
  (pss_cons (ps_expr (C8.pe_mt c_Box_carry_out hr (by decide) (pv 0) (pa_cons (pv 1) (pa_cons pe_str (pa_cons (pv 5) pa_nil)))))
  (pss_cons (ps_if (PW.pt (pw_and (pt_val (pv 3)) (pw_and1 (pt_val (My.pe_fldK (K := K) rfl (pv 0) rfl)))))
  (pss_cons (ps_if (My.pt_truthK (K := K) rfl (My.pe_fldK (K := K) rfl (pv 0) rfl) (by intro _; rfl))
  (pss_one (ps_expr (My.pe_bmK (K := K) rfl PySem.F.plainAttrs_list PySem.F.slot_list_append PySem.F.type_list_append mt_append (My.pe_fldK (K := K) rfl (pv 5) rfl) (pa_cons pe_str pa_nil))))
  pss_nil)
  (pss_cons (ps_expr (My.pe_bmK (K := K) rfl PySem.F.plainAttrs_list PySem.F.slot_list_append PySem.F.type_list_append mt_append (My.pe_fldK (K := K) rfl (pv 0) rfl) (pa_cons (pv 2) pa_nil)))
  (pss_one (ps_fld (pv 5) pe_bl rfl))))
  pss_nil)
  (pss_cons (ps_expr (C8.pe_mt c_Box_go_away hr (by decide) (pv 0) (pa_cons (pv 1) (pa_cons (pv 4) (pa_cons (pe_tup (pa_cons pe_str (pa_cons pe_str pa_nil))) (pa_cons (pv 5) pa_nil))))))
  (pss_one (ps_ret (pv 5)))))))))))))), ?_⟩
    intro t dt nt ndt nex
    refine ⟨t, dt, rfl, upd_same, fun H1 ll lg lw lm bt nd new h1 h2 h3 h4 h5 => ⟨rfl, ?_⟩⟩
    have h := mkBT hB nt ndt nex bt nd new h1 h2 h3 h4 h5
    refine ⟨_, rfl, b, _, dx, _, _, rfl, h.hb, T.cl_Box, T.no_Box_taken_for, rfl, rfl, _, rfl, ?_⟩
    unfold bringF at q
    by_cases c : S.tf = "free"
    · rw [if_pos c] at q
      rw [show (!decide (V.str S.tf = V.str "free")) = false by rw [str_eqT c]; rfl]
      -- what is left behind the laying
      have last : ∀ (H2 : Hp) (x : BoxS × ToldS) (m : Nat), BTx K H0 H2 b t x → Bd m x → m < 950000 → (∀ H' t, BTx K H0 H' b t (goAway s1 "laid" "left" (at_ rs 1) (at_ rs 2) x) → Q (.ref t) H') →
          tSeq (tDrop (tMeth (He.ga K "Box") "_go_away" (sp_Box_go_away K) [] C8.E0 (tVar 0) (tCons (tVar 1) (tCons (tVar 4) (tCons (tTup (tCons (tC (.str "laid")) (tCons (tC (.str "left")) tNil))) (tCons (tVar 5) tNil)))))) (tRet (tVar 5))
            { nx := fun _ H' => Q .non H', rt := Q } [some (.ref b), some (.ref k), some (.int p), some (.bl l), some (.bl s1), some (.ref t)] H2 := by
        intro H2 x m hx bdx hm q2
        obtain ⟨dx2, li2, dv2, ds2, dr2, dt2, yb2, ll2, lg2, lw2, lm2, h2⟩ := id hx
        refine ⟨_, rfl, b, dx2, _, rfl, h2.hb, rfl, _, rfl, _, rfl, by show 2 ≤ sizeLine; decide, fun g hgn => ⟨_, rfl, ?_⟩⟩
        exact ⟨H0, b, t, k, g, s1, "laid", "left", 1, 2, _, _, d, rs, x, m, rfl, tupN hx hgn, hk, SqT.of upd_same, rfl, hg.get (by decide), hg.six (by decide), rfl, hg.get (by decide), hg.six (by decide), bdx, by omega, fun H3 hx3 => ⟨_, rfl, q2 _ _ hx3⟩⟩
      refine ⟨_, rfl, t, _, dt, _, rfl, h.ht, T.cl_Told, T.no_Told_opened, (by show 6 < 1000; decide), ?_⟩
      have g1 := h.set_t (T' := { T0 with opened := true }) rfl rfl rfl rfl
      refine ⟨_, rfl, b, _, dx, _, rfl, g1.hb, T.cl_Box, T.no_Box_ajar, (by show 8 < 1000; decide), ?_⟩
      have g2 := g1.set_b (S' := { S with ajar := true }) rfl rfl rfl rfl
      refine ⟨_, rfl, b, _, dx, _, rfl, g2.hb, T.cl_Box, T.no_Box_age, (by show 8 < 1000; decide), ?_⟩
      have g3 := g2.set_b (S' := { S with ajar := true, age := some 0 }) rfl rfl rfl rfl
      refine ⟨_, rfl, _, rfl, b, _, dx, _, rfl, g3.hb, T.cl_Box, T.no_Box_last, (by show 8 < 1000; decide), ?_⟩
      have g4 := g3.set_b (S' := { S with ajar := true, age := some 0, last := some p }) rfl rfl rfl rfl
      have hx4 : BTx K H0 _ b t ({ S with ajar := true, age := some 0, last := some p }, { T0 with opened := true }) := ⟨dx, li, dv, ds, dr, dt, _, ll, lg, lw, lm, g4⟩
      have bd4 : Bd n ({ S with ajar := true, age := some 0, last := some p }, { T0 with opened := true }) := ⟨bd.i, bd.v, bd.s, bd.r, bd.l, bd.w, bd.m⟩
      have bd5 := (bd4.carry (at_ rs 0) "given").mono (m := n + 7) (by have := hg.six (i := 0) (by decide); omega)
      refine ⟨_, rfl, b, dx, _, rfl, g4.hb, rfl, _, rfl, _, rfl, H0, b, t, k, "given", 0, _, d, rs, _, n, rfl, hx4, hk, rfl, hg.get (by decide), hg.six (by decide), bd4, by omega, fun H2 hx => ?_⟩
      have bd6 := bd5.lay (p := p) (l := l)
      generalize hy : carry (at_ rs 0) "given" ({ S with ajar := true, age := some 0, last := some p }, { T0 with opened := true }) = y at hx q bd5 bd6
      obtain ⟨Y, U⟩ := y
      have q' := fun (e : layIn p l (Y, U) = layIn p l (Y, U)) => q
      refine ⟨_, rfl, _, rfl, ?_⟩
      cases l with
      | false =>
        have e0 : layIn p false (Y, U) = (Y, U) := by
          unfold layIn
          rw [if_neg (fun z => Bool.false_ne_true z.1)]
        rw [e0] at q
        exact last _ _ _ hx bd5 (by omega) q
      | true =>
        obtain ⟨dx2, li2, dv2, ds2, dr2, dt2, yb2, ll2, lg2, lw2, lm2, h2⟩ := id hx
        refine ⟨_, rfl, b, _, dx2, _, _, rfl, h2.hb, T.cl_Box, T.no_Box_ajar, rfl, _, rfl, ?_⟩
        cases ca : Y.ajar with
        | false =>
          have e0 : layIn p true (Y, U) = (Y, U) := by
            unfold layIn
            rw [if_neg (fun z => by have := z.2; rw [show (Y, U).1.ajar = Y.ajar from rfl, ca] at this; exact Bool.false_ne_true this)]
          rw [e0] at q
          exact last _ _ _ hx bd5 (by omega) q
        | true =>
          have e0 : layIn p true (Y, U) = ({ Y with inside := Y.inside ++ [p] }, { U with wrongs := if Y.inside.isEmpty = true then U.wrongs else U.wrongs ++ [("two" : Str)] }) := by
            unfold layIn
            rw [if_pos ⟨rfl, ca⟩]
          rw [e0] at q bd6
          refine ⟨_, rfl, b, _, dx2, _, _, rfl, h2.hb, T.cl_Box, T.no_Box_inside, rfl, !(Y.inside.map V.int).isEmpty, .inl ⟨_, SqL.of h2.hli, rfl⟩, ?_⟩
          rw [List.isEmpty_map]
          have zi : Y.inside.length ≤ n + 7 := bd5.i
          have zw : U.wrongs.length ≤ n + 7 := bd5.w
          have ei : Y.inside.map V.int ++ [V.int p] = (Y.inside ++ [p]).map V.int := by rw [List.map_append]; rfl
          cases ce : Y.inside.isEmpty with
          | true =>
            rw [ce, if_pos rfl] at q bd6
            refine ⟨_, rfl, b, _, dx2, _, _, rfl, h2.hb, T.cl_Box, T.no_Box_inside, rfl, .inl ⟨rfl, _, SqL.of h2.hli⟩, _, rfl, li2, _, _, rfl, rfl, h2.hli, by rw [List.length_map]; exact lt_line (by show Y.inside.length ≤ 1000000; omega), ?_⟩
            rw [ei]
            have h3 := h2.set_li (S' := { Y with inside := Y.inside ++ [p] }) rfl
            refine ⟨_, rfl, t, _, dt2, _, rfl, h3.ht, T.cl_Told, T.no_Told_lays, (by show 6 < 1000; decide), ?_⟩
            have hx5 : BTx K H0 _ b t ({ Y with inside := Y.inside ++ [p] }, U) := ⟨dx2, li2, dv2, ds2, dr2, dt2, _, ll2, lg2, lw2, lm2, h3.set_y true⟩
            exact last _ _ _ hx5 bd6 (by omega) q
          | false =>
            rw [ce, if_neg Bool.false_ne_true] at q bd6
            refine ⟨_, rfl, t, _, dt2, _, _, rfl, h2.ht, T.cl_Told, T.no_Told_wrongs, rfl, .inl ⟨rfl, _, SqL.of h2.hlw⟩, lw2, _, _, rfl, rfl, h2.hlw, by rw [List.length_map]; exact lt_line (by show U.wrongs.length ≤ 1000000; omega), ?_⟩
            have ew : U.wrongs.map V.str ++ [V.str "two"] = (U.wrongs ++ [("two" : Str)]).map V.str := by rw [List.map_append]; rfl
            have h3 := h2.set_lw (T' := { U with wrongs := U.wrongs ++ [("two" : Str)] }) rfl
            rw [← ew] at h3
            refine ⟨_, rfl, b, _, dx2, _, _, rfl, h3.hb, T.cl_Box, T.no_Box_inside, rfl, .inl ⟨rfl, _, SqL.of h3.hli⟩, _, rfl, li2, _, _, rfl, rfl, h3.hli, by rw [List.length_map]; exact lt_line (by show Y.inside.length ≤ 1000000; omega), ?_⟩
            have h4 := h3.set_li (S' := { Y with inside := Y.inside ++ [p] }) rfl
            rw [← ei] at h4
            refine ⟨_, rfl, t, _, dt2, _, rfl, h4.ht, T.cl_Told, T.no_Told_lays, (by show 6 < 1000; decide), ?_⟩
            have hx5 : BTx K H0 _ b t ({ Y with inside := Y.inside ++ [p] }, { U with wrongs := U.wrongs ++ [("two" : Str)] }) := ⟨dx2, li2, dv2, ds2, dr2, dt2, _, ll2, lg2, lw2, lm2, h4.set_y true⟩
            exact last _ _ _ hx5 bd6 (by omega) q
    · rw [if_neg c] at q
      rw [show (!decide (V.str S.tf = V.str "free")) = true by rw [str_eqF c]; rfl]
      exact ⟨_, rfl, q _ _ ⟨dx, li, dv, ds, dr, dt, _, ll, lg, lw, lm, h⟩⟩
theorem c_Box_bring (T : Txt K mg) : C8.Met P w K mg base 5 (He.ga K "Box") "bring" (sp_Box_bring K) [] := by
  obtain ⟨fd, F⟩ := T.f_Box_bring
  exact ⟨_, fd, _, _, T.cl_Box, T.m_Box_bring, ok_Box_bring T F, F.bindsN (fun _ _ _ _ _ _ us hl => match us, hl with | [_, _, _, _, _], _ => rfl), .nil⟩
end
end K25

namespace K25
open PySem PySem.Spec PyProof.Rows L2 My
def takeIf (p : Int) (t : Bool) (x : BoxS × ToldS) : BoxS × ToldS := if t = true ∧ x.1.ajar = true then letTake (some p) x else x
def addW (c : Bool) (wd : Str) (x : BoxS × ToldS) : BoxS × ToldS := if c = true then (x.1, { x.2 with wrongs := x.2.wrongs ++ [wd] }) else x
def missF (p : Int) (S : BoxS) : Bool := decide (p ∉ S.inside) && decide (p ∉ S.served)
def codeF (rs : List RuleL) (p : Int) (t s : Bool) (S : BoxS) : BoxS × ToldS :=
  if p ∈ S.valid then goAway s "taken" "gone" (at_ rs 4) (at_ rs 5) (addW (missF p S) "empty" (takeIf p t (carry (at_ rs 3) "opened" ({ S with ajar := true }, { T0 with opened := true }))))
  else addW (decide (p ∈ S.inside) && decide (p ∈ S.sent)) "refused" (S, T0)
theorem Bd.tk {n : Nat} {x : BoxS × ToldS} (h : Bd n x) {p : Int} {t : Bool} : Bd (n + 1) (takeIf p t x) := by
  unfold takeIf
  split
  · exact h.take _
  · exact h.mono (Nat.le_succ n)
theorem Bd.aw {n : Nat} {x : BoxS × ToldS} (h : Bd n x) {c : Bool} {wd : Str} : Bd (n + 1) (addW c wd x) := by
  have h1 := h.mono (Nat.le_succ n)
  unfold addW
  split
  · refine ⟨h1.i, h1.v, h1.s, h1.r, h1.l, ?_, h1.m⟩
    show (x.2.wrongs ++ [wd]).length ≤ n + 1
    rw [List.length_append]
    exact Nat.succ_le_succ h.w
  · exact h1
section
variable {P : Program} {w : World} {K : PySem.W.Frag} {mg : Str → Option Value} {base : Heap}
def sp_Box_code (K : PySem.W.Frag) : Sp := fun vs H Q _ => ∃ (H0 : Hp) (b k : Addr) (p : Int) (l s : Bool) (d : Int) (rs : List RuleL) (S : BoxS) (n : Nat), vs = [.ref b, .ref k, .int p, .bl l, .bl s] ∧ Bx K H0 H b S ∧ BookAt K H0 k d rs ∧ GoodB rs ∧ Bd n (S, T0) ∧ n < 900000 ∧ ∀ H' t, BTx K H0 H' b t (codeF rs p l s S) → Q (.ref t) H'
set_option maxHeartbeats 2000000 in
theorem ok_Box_code (T : Txt K mg) {fd : FuncData} (F : FunD K d_Box_code.name d_Box_code.qual d_Box_code.params d_Box_code.body d_Box_code.scope (d_Box_code.dvs K) (d_Box_code.kws K) (He.fAd K d_Box_code.at_) fd) : FnOk P w K mg base C8.CX0 5 (He.fAd K d_Box_code.at_) fd ["self", "book", "parcel", "takes", "shuts"] (sp_Box_code K) := by
  have c_Box_go_away := c_Box_go_away (P := P) (w := w) (base := base) T
  have c_Box_let_take := c_Box_let_take (P := P) (w := w) (base := base) T
  have c_Box_carry_out := c_Box_carry_out (P := P) (w := w) (base := base) T
  have c_Told_init := c_Told_init (P := P) (w := w) (base := base) T
  refine F.ok sc_Box_code (fun vs H Q E h => ?_) (fun cdv A outer s H vs Q E hr h => ?_)
  · obtain ⟨H0, b, k, p, l, s1, d, rs, S, n, rfl, _⟩ := h
    rfl
  · have hu := L2.hu_of hr
    obtain ⟨H0, b, k, p, l, s1, d, rs, S, n, rfl, ⟨dx, li, dv, ds, dr, hB⟩, hk, hg, bd, hn, q⟩ := h
    refine ⟨_, (PSs.nox ((pss_cons (ps_set (i := 5) sc_Box_code.nd rfl (by first | exact Or.inl rfl | exact Or.inr rfl) (My.pe_mk0 c_Told_init hr (by decide) rfl))
  (pss_cons (ps_if (pt_cmp (pc_dnotin hu (pv 2) (My.pe_fldK (K := K) rfl (pv 0) rfl)))
  (pss_cons (ps_if (PW.pt (pw_and (pt_cmpR (My.in_seqK (K := K) rfl) (pv 2) (My.pe_fldK (K := K) rfl (pv 0) rfl) (by rfl)) (pw_and1 (pt_cmp (pc_din hu (pv 2) (My.pe_fldK (K := K) rfl (pv 0) rfl))))))
  (pss_one (ps_expr (My.pe_bmK (K := K) rfl PySem.F.plainAttrs_list PySem.F.slot_list_append PySem.F.type_list_append mt_append (My.pe_fldK (K := K) rfl (pv 5) rfl) (pa_cons pe_str pa_nil))))
  pss_nil)
  (pss_one (ps_ret (pv 5))))
  pss_nil)
  (pss_cons (ps_set (i := 6) sc_Box_code.nd rfl (by first | exact Or.inl rfl | exact Or.inr rfl) (pe_and (pe_cmpR (My.notIn_seqK (K := K) rfl) (pv 2) (My.pe_fldK (K := K) rfl (pv 0) rfl) (by rfl)) (pe_one (pe_cmp (pc_dnotin hu (pv 2) (My.pe_fldK (K := K) rfl (pv 0) rfl)) rfl))))
  (pss_cons (ps_fld (pv 5) pe_bl rfl)
  (pss_cons (ps_fld (pv 0) pe_bl rfl)
  (pss_cons (ps_expr (C8.pe_mt c_Box_carry_out hr (by decide) (pv 0) (pa_cons (pv 1) (pa_cons pe_str (pa_cons (pv 5) pa_nil)))))
  (pss_cons (ps_if (PW.pt (pw_and (pt_val (pv 3)) (pw_and1 (pt_val (My.pe_fldK (K := K) rfl (pv 0) rfl)))))
  (pss_one (ps_expr (C8.pe_mt c_Box_let_take hr (by decide) (pv 0) (pa_cons (pv 2) (pa_cons (pv 5) pa_nil)))))
  pss_nil)
  (pss_cons (ps_if (pt_val (pv 6))
  (pss_one (ps_expr (My.pe_bmK (K := K) rfl PySem.F.plainAttrs_list PySem.F.slot_list_append PySem.F.type_list_append mt_append (My.pe_fldK (K := K) rfl (pv 5) rfl) (pa_cons pe_str pa_nil))))
  pss_nil)
  (pss_cons (ps_expr (C8.pe_mt c_Box_go_away hr (by decide) (pv 0) (pa_cons (pv 1) (pa_cons (pv 4) (pa_cons (pe_tup (pa_cons pe_str (pa_cons pe_str pa_nil))) (pa_cons (pv 5) pa_nil))))))
  (pss_one (ps_ret (pv 5)))))))))))))), ?_⟩
    intro t dt nt ndt nex
    refine ⟨t, dt, rfl, upd_same, fun H1 ll lg lw lm bt nd new h1 h2 h3 h4 h5 => ⟨rfl, ?_⟩⟩
    have h := mkBT hB nt ndt nex bt nd new h1 h2 h3 h4 h5
    refine ⟨_, rfl, _, rfl, b, _, dx, _, _, rfl, h.hb, T.cl_Box, T.no_Box_valid, rfl, dv, _, rfl, DGet.k (k := Sum.inl p) h.hdv, _, rfl, ?_⟩
    rw [valV_kvT]
    have sent_in : ∀ (A B : Prop) (x : Bool), (x = true → A) → (x = false → B) → if x = true then A else B := fun A B x ha hb => by
      cases x with
      | true => exact ha rfl
      | false => exact hb rfl
    unfold codeF at q
    by_cases c : p ∈ S.valid
    · rw [if_pos c] at q
      rw [decide_eq_true c]
      -- behind the taking: the word, the going away
      have last : ∀ (H2 : Hp) (x : BoxS × ToldS) (m : Nat), BTx K H0 H2 b t x → Bd m x → m < 950000 → (∀ H' t, BTx K H0 H' b t (goAway s1 "taken" "gone" (at_ rs 4) (at_ rs 5) x) → Q (.ref t) H') →
          tSeq (tDrop (tMeth (He.ga K "Box") "_go_away" (sp_Box_go_away K) [] C8.E0 (tVar 0) (tCons (tVar 1) (tCons (tVar 4) (tCons (tTup (tCons (tC (.str "taken")) (tCons (tC (.str "gone")) tNil))) (tCons (tVar 5) tNil)))))) (tRet (tVar 5))
            { nx := fun _ H' => Q .non H', rt := Q } [some (.ref b), some (.ref k), some (.int p), some (.bl l), some (.bl s1), some (.ref t), some (.bl (missF p S))] H2 := by
        intro H2 x m hx bdx hm q2
        obtain ⟨dx2, li2, dv2, ds2, dr2, dt2, yb2, ll2, lg2, lw2, lm2, h2⟩ := id hx
        refine ⟨_, rfl, b, dx2, _, rfl, h2.hb, rfl, _, rfl, _, rfl, by show 2 ≤ sizeLine; decide, fun g hgn => ⟨_, rfl, ?_⟩⟩
        exact ⟨H0, b, t, k, g, s1, "taken", "gone", 4, 5, _, _, d, rs, x, m, rfl, tupN hx hgn, hk, SqT.of upd_same, rfl, hg.get (by decide), hg.six (by decide), rfl, hg.get (by decide), hg.six (by decide), bdx, by omega, fun H3 hx3 => ⟨_, rfl, q2 _ _ hx3⟩⟩
      have last2 : ∀ (H2 : Hp) (x : BoxS × ToldS) (m : Nat), BTx K H0 H2 b t x → Bd m x → m < 940000 → (∀ H' t, BTx K H0 H' b t (goAway s1 "taken" "gone" (at_ rs 4) (at_ rs 5) (addW (missF p S) "empty" x)) → Q (.ref t) H') →
          tSeq (tIfS (tB (tVar 6)) (tDrop (tBM K "list" rAppend (tFld K (tVar 5) "wrongs") (tCons (tC (.str "empty")) tNil))) tNext) (tSeq (tDrop (tMeth (He.ga K "Box") "_go_away" (sp_Box_go_away K) [] C8.E0 (tVar 0) (tCons (tVar 1) (tCons (tVar 4) (tCons (tTup (tCons (tC (.str "taken")) (tCons (tC (.str "gone")) tNil))) (tCons (tVar 5) tNil)))))) (tRet (tVar 5)))
            { nx := fun _ H' => Q .non H', rt := Q } [some (.ref b), some (.ref k), some (.int p), some (.bl l), some (.bl s1), some (.ref t), some (.bl (missF p S))] H2 := by
        intro H2 x m hx bdx hm q2
        refine ⟨_, rfl, _, rfl, ?_⟩
        unfold addW at q2
        refine sent_in _ _ _ (fun e => ?_) (fun e => ?_)
        · rw [if_pos e] at q2
          obtain ⟨Y, U⟩ := x
          obtain ⟨dx2, li2, dv2, ds2, dr2, dt2, yb2, ll2, lg2, lw2, lm2, h2⟩ := id hx
          have zw : U.wrongs.length ≤ m := bdx.w
          refine ⟨_, rfl, t, _, dt2, _, _, rfl, h2.ht, T.cl_Told, T.no_Told_wrongs, rfl, .inl ⟨rfl, _, SqL.of h2.hlw⟩, lw2, _, _, rfl, rfl, h2.hlw, by rw [List.length_map]; exact lt_line (by show U.wrongs.length ≤ 1000000; omega), ?_⟩
          have ew : U.wrongs.map V.str ++ [V.str "empty"] = (U.wrongs ++ [("empty" : Str)]).map V.str := by rw [List.map_append]; rfl
          have h3 := h2.set_lw (T' := { U with wrongs := U.wrongs ++ [("empty" : Str)] }) rfl
          rw [← ew] at h3
          refine last _ _ (m + 1) ⟨dx2, li2, dv2, ds2, dr2, dt2, yb2, ll2, lg2, lw2, lm2, h3⟩ ?_ (by omega) q2
          have := bdx.aw (c := true) (wd := "empty")
          exact this
        · rw [if_neg (by rw [e]; exact Bool.false_ne_true)] at q2
          exact last _ _ _ hx bdx (by omega) q2
      refine ⟨_, rfl, _, rfl, b, _, dx, _, _, rfl, h.hb, T.cl_Box, T.no_Box_inside, rfl, li, _, rfl, .inl (SqL.of h.hli), rfl, all_flat_int _, _, rfl, ?_⟩
      rw [show (if true = true then !inV (.int p) (S.inside.map V.int) else inV (.int p) (S.inside.map V.int)) = decide (p ∉ S.inside) by rw [if_pos rfl, inV_int, ← decide_not]]
      -- missing stands in slot 6
      have mid : ∀ (tl : TS), (tl { nx := fun _ H' => Q .non H', rt := Q } [some (.ref b), some (.ref k), some (.int p), some (.bl l), some (.bl s1), some (.ref t), some (.bl (missF p S))] H1) →
          (if decide (p ∉ S.inside) = true then tOp rEq (tC .non) (tC .non) [] H1 (fun _ _ => True) else True) → True := fun _ _ _ => trivial
      have fin : tSeq (sFld K (tVar 5) (tC (.bl true)) "opened") (tSeq (sFld K (tVar 0) (tC (.bl true)) "ajar") (tSeq (tDrop (tMeth (He.ga K "Box") "_carry_out" (sp_Box_carry_out K) [] C8.E0 (tVar 0) (tCons (tVar 1) (tCons (tC (.str "opened")) (tCons (tVar 5) tNil)))))
          (tSeq (tIfS (tAnd (tB (tVar 3)) (tB (tFld K (tVar 0) "ajar"))) (tDrop (tMeth (He.ga K "Box") "_let_take" (sp_Box_let_take K) [] C8.E0 (tVar 0) (tCons (tVar 2) (tCons (tVar 5) tNil)))) tNext)
            (tSeq (tIfS (tB (tVar 6)) (tDrop (tBM K "list" rAppend (tFld K (tVar 5) "wrongs") (tCons (tC (.str "empty")) tNil))) tNext) (tSeq (tDrop (tMeth (He.ga K "Box") "_go_away" (sp_Box_go_away K) [] C8.E0 (tVar 0) (tCons (tVar 1) (tCons (tVar 4) (tCons (tTup (tCons (tC (.str "taken")) (tCons (tC (.str "gone")) tNil))) (tCons (tVar 5) tNil)))))) (tRet (tVar 5)))))))
          { nx := fun _ H' => Q .non H', rt := Q } [some (.ref b), some (.ref k), some (.int p), some (.bl l), some (.bl s1), some (.ref t), some (.bl (missF p S))] H1 := by
        refine ⟨_, rfl, t, _, dt, _, rfl, h.ht, T.cl_Told, T.no_Told_opened, (by show 6 < 1000; decide), ?_⟩
        have g1 := h.set_t (T' := { T0 with opened := true }) rfl rfl rfl rfl
        refine ⟨_, rfl, b, _, dx, _, rfl, g1.hb, T.cl_Box, T.no_Box_ajar, (by show 8 < 1000; decide), ?_⟩
        have g2 := g1.set_b (S' := { S with ajar := true }) rfl rfl rfl rfl
        have hx2 : BTx K H0 _ b t ({ S with ajar := true }, { T0 with opened := true }) := ⟨dx, li, dv, ds, dr, dt, _, ll, lg, lw, lm, g2⟩
        have bd2 : Bd n ({ S with ajar := true }, { T0 with opened := true }) := ⟨bd.i, bd.v, bd.s, bd.r, bd.l, bd.w, bd.m⟩
        have bd3 := (bd2.carry (at_ rs 3) "opened").mono (m := n + 7) (by have := hg.six (i := 3) (by decide); omega)
        refine ⟨_, rfl, b, dx, _, rfl, g2.hb, rfl, _, rfl, _, rfl, H0, b, t, k, "opened", 3, _, d, rs, _, n, rfl, hx2, hk, rfl, hg.get (by decide), hg.six (by decide), bd2, by omega, fun H2 hx => ?_⟩
        generalize hy : carry (at_ rs 3) "opened" ({ S with ajar := true }, { T0 with opened := true }) = y at hx q bd3
        obtain ⟨Y, U⟩ := y
        refine ⟨_, rfl, _, rfl, ?_⟩
        cases l with
        | false =>
          have e0 : takeIf p false (Y, U) = (Y, U) := by
            unfold takeIf
            rw [if_neg (fun z => Bool.false_ne_true z.1)]
          rw [e0] at q
          exact last2 _ _ _ hx bd3 (by omega) q
        | true =>
          obtain ⟨dx2, li2, dv2, ds2, dr2, dt2, yb2, ll2, lg2, lw2, lm2, h2⟩ := id hx
          refine ⟨_, rfl, b, _, dx2, _, _, rfl, h2.hb, T.cl_Box, T.no_Box_ajar, rfl, _, rfl, ?_⟩
          cases ca : Y.ajar with
          | false =>
            have e0 : takeIf p true (Y, U) = (Y, U) := by
              unfold takeIf
              rw [if_neg (fun z => by have := z.2; rw [show (Y, U).1.ajar = Y.ajar from rfl, ca] at this; exact Bool.false_ne_true this)]
            rw [e0] at q
            exact last2 _ _ _ hx bd3 (by omega) q
          | true =>
            have e0 : takeIf p true (Y, U) = letTake (some p) (Y, U) := by
              unfold takeIf
              rw [if_pos ⟨rfl, ca⟩]
            rw [e0] at q
            exact ⟨_, rfl, b, dx2, _, rfl, h2.hb, rfl, _, rfl, _, rfl, H0, b, t, some p, (Y, U), n + 7, rfl, hx, bd3, by omega, fun H3 hx3 => last2 _ _ (n + 8) hx3 (bd3.take _) (by omega) q⟩
      unfold missF at fin
      by_cases ci : p ∈ S.inside
      · rw [decide_eq_false (fun z => z ci)] at fin ⊢
        exact fin
      · rw [decide_eq_true ci] at fin ⊢
        refine ⟨_, rfl, _, rfl, b, _, dx, _, _, rfl, h.hb, T.cl_Box, T.no_Box_served, rfl, dr, _, rfl, DGet.k (k := Sum.inl p) h.hdr, ?_⟩
        rw [valV_kvT, ← decide_not]
        exact fin
    · rw [if_neg c] at q
      rw [decide_eq_false c]
      refine ⟨_, rfl, _, rfl, b, _, dx, _, _, rfl, h.hb, T.cl_Box, T.no_Box_inside, rfl, li, _, rfl, .inl (SqL.of h.hli), rfl, all_flat_int _, _, rfl, ?_⟩
      rw [show (if false = true then !inV (.int p) (S.inside.map V.int) else inV (.int p) (S.inside.map V.int)) = decide (p ∈ S.inside) by rw [if_neg Bool.false_ne_true, inV_int]]
      have hx : BTx K H0 H1 b t (S, T0) := ⟨dx, li, dv, ds, dr, dt, _, ll, lg, lw, lm, h⟩
      by_cases ci : p ∈ S.inside
      · rw [decide_eq_true ci]
        rw [decide_eq_true ci] at q
        refine ⟨_, rfl, _, rfl, b, _, dx, _, _, rfl, h.hb, T.cl_Box, T.no_Box_sent, rfl, ds, _, rfl, DGet.k (k := Sum.inl p) h.hds, _, rfl, ?_⟩
        rw [valV_kvT]
        by_cases cs : p ∈ S.sent
        · rw [decide_eq_true cs]
          rw [decide_eq_true cs] at q
          refine ⟨_, rfl, t, _, dt, _, _, rfl, h.ht, T.cl_Told, T.no_Told_wrongs, rfl, .inl ⟨rfl, _, SqL.of h.hlw⟩, lw, _, _, rfl, rfl, h.hlw, by show 0 < sizeLine; decide, ?_⟩
          have h3 := h.set_lw (T' := { T0 with wrongs := [("refused" : Str)] }) rfl
          exact ⟨_, rfl, q _ _ ⟨dx, li, dv, ds, dr, dt, _, ll, lg, lw, lm, h3⟩⟩
        · rw [decide_eq_false cs]
          rw [decide_eq_false cs] at q
          exact ⟨_, rfl, q _ _ hx⟩
      · rw [decide_eq_false ci]
        rw [decide_eq_false ci] at q
        exact ⟨_, rfl, q _ _ hx⟩
theorem c_Box_code (T : Txt K mg) : C8.Met P w K mg base 5 (He.ga K "Box") "code" (sp_Box_code K) [] := by
  obtain ⟨fd, F⟩ := T.f_Box_code
  exact ⟨_, fd, _, _, T.cl_Box, T.m_Box_code, ok_Box_code T F, F.bindsN (fun _ _ _ _ _ _ us hl => match us, hl with | [_, _, _, _, _], _ => rfl), .nil⟩
end
end K25

namespace K25
open PySem PySem.Spec PyProof.Rows L2 My
def doF (rs : List RuleL) (d : Int) (n : Int) (x : Deed) (S : BoxS) : BoxS × ToldS :=
  match x with
  | .bring l s => bringF rs n l s S
  | .code p t s => codeF rs p t s S
  | .pass => passBy S
  | .day => dayF d rs S
  | .power => powerF rs S
theorem Bd.self {n : Nat} {x : BoxS × ToldS} (h : Bd n x) : Bd n (x.1, T0) := ⟨h.i, h.v, h.s, h.r, Nat.zero_le _, Nat.zero_le _, Nat.zero_le _⟩
theorem Bd.doF {n : Nat} {S : BoxS} {rs : List RuleL} {d k : Int} {x : Deed} (hg : GoodB rs) (h : Bd n (S, T0)) : Bd (n + 16) (doF rs d k x S) := by
  have l6 := fun (i : Nat) (hi : i < 8) => hg.six (i := i) hi
  cases x with
  | bring l s =>
    show Bd (n + 16) (bringF rs k l s S)
    unfold bringF
    split
    · have b1 : Bd n ({ S with ajar := true, age := some 0, last := some k }, { T0 with opened := true }) := ⟨h.i, h.v, h.s, h.r, h.l, h.w, h.m⟩
      have b2 := (b1.carry (at_ rs 0) "given").mono (m := n + 7) (by have := l6 0 (by decide); omega)
      exact (((b2.lay (p := k) (l := l)).go (sh := s) (m1 := "laid") (m2 := "left") (l6 1 (by decide)) (l6 2 (by decide))).mono (by omega))
    · exact h.mono (by omega)
  | code p t s =>
    show Bd (n + 16) (codeF rs p t s S)
    unfold codeF
    split
    · have b1 : Bd n ({ S with ajar := true }, { T0 with opened := true }) := ⟨h.i, h.v, h.s, h.r, h.l, h.w, h.m⟩
      have b2 := (b1.carry (at_ rs 3) "opened").mono (m := n + 7) (by have := l6 3 (by decide); omega)
      exact ((((b2.tk (p := p) (t := t)).aw (c := missF p S) (wd := "empty")).go (sh := s) (m1 := "taken") (m2 := "gone") (l6 4 (by decide)) (l6 5 (by decide))).mono (by omega))
    · exact (h.aw).mono (by omega)
  | pass =>
    show Bd (n + 16) (passBy S)
    unfold passBy
    split
    · exact (h.take none).mono (by omega)
    · exact h.mono (by omega)
  | day =>
    show Bd (n + 16) (dayF d rs S)
    unfold dayF
    split
    · exact h.mono (by omega)
    · rename_i a _
      split
      · have b1 : Bd n ({ S with age := some (a + 1) }, T0) := ⟨h.i, h.v, h.s, h.r, h.l, h.w, h.m⟩
        exact (b1.carry (at_ rs 6) "late").mono (by have := l6 6 (by decide); omega)
      · exact (show Bd n ({ S with age := some (a + 1) }, T0) from ⟨h.i, h.v, h.s, h.r, h.l, h.w, h.m⟩).mono (by omega)
  | power =>
    show Bd (n + 16) (powerF rs S)
    unfold powerF
    exact (h.carry (at_ rs 7) "power").mono (by have := l6 7 (by decide); omega)
section
variable {P : Program} {w : World} {K : PySem.W.Frag} {mg : Str → Option Value} {base : Heap}
def sp_do_deed (K : PySem.W.Frag) : Sp := fun vs H Q _ => ∃ (H0 : Hp) (b k : Addr) (v : V) (x : Deed) (p : Int) (d : Int) (rs : List RuleL) (S : BoxS) (n : Nat), vs = [.ref k, .ref b, v, .int p] ∧ DeedAt K H v x ∧ Bx K H0 H b S ∧ BookAt K H0 k d rs ∧ GoodB rs ∧ Bd n (S, T0) ∧ n < 900000 ∧ ∀ H' t, BTx K H0 H' b t (doF rs d p x S) → Q (.ref t) H'
set_option maxHeartbeats 2000000 in
theorem ok_do_deed (T : Txt K mg) {fd : FuncData} (F : FunD K d_do_deed.name d_do_deed.qual d_do_deed.params d_do_deed.body d_do_deed.scope (d_do_deed.dvs K) (d_do_deed.kws K) (He.fAd K d_do_deed.at_) fd) : FnOk P w K mg base C8.CX0 6 (He.fAd K d_do_deed.at_) fd ["book", "box", "deed", "parcel"] (sp_do_deed K) := by
  have c_Box_power := c_Box_power (P := P) (w := w) (base := base) T
  have c_Box_day := c_Box_day (P := P) (w := w) (base := base) T
  have c_Box_pass_by := c_Box_pass_by (P := P) (w := w) (base := base) T
  have c_Box_code := c_Box_code (P := P) (w := w) (base := base) T
  have c_Box_bring := c_Box_bring (P := P) (w := w) (base := base) T
  refine F.ok sc_do_deed (fun vs H Q E h => ?_) (fun cdv A outer s H vs Q E hr h => ?_)
  · obtain ⟨H0, b, k, v, x, p, d, rs, S, n, rfl, _⟩ := h
    rfl
  · have hu := L2.hu_of hr
    obtain ⟨H0, b, k, v, x, p, d, rs, S, n, rfl, ⟨a, rfl, ha⟩, hB, hk, hg, bd, hn, q⟩ := h
    obtain ⟨dx, li, dv, ds, dr, hb⟩ := id hB
    refine ⟨_, (PSs.nox ((pss_cons (ps_set (i := 4) sc_do_deed.nd rfl (by first | exact Or.inl rfl | exact Or.inr rfl) (pe_ix (My.ix_tupK (K := K) rfl) (pv 2) pe_int (fun _ _ => rfl)))
  (pss_cons (ps_if (pt_cmpR op_eq (pv 4) pe_str (nomark _))
  (pss_one (ps_ret (C8.pe_mt c_Box_bring hr (by decide) (pv 1) (pa_cons (pv 0) (pa_cons (pv 3) (pa_cons (pe_ix (My.ix_tupK (K := K) rfl) (pv 2) pe_int (fun _ _ => rfl)) (pa_cons (pe_ix (My.ix_tupK (K := K) rfl) (pv 2) pe_int (fun _ _ => rfl)) pa_nil)))))))
  pss_nil)
  (pss_cons (ps_if (pt_cmpR op_eq (pv 4) pe_str (nomark _))
  (pss_one (ps_ret (C8.pe_mt c_Box_code hr (by decide) (pv 1) (pa_cons (pv 0) (pa_cons (pe_ix (My.ix_tupK (K := K) rfl) (pv 2) pe_int (fun _ _ => rfl)) (pa_cons (pe_ix (My.ix_tupK (K := K) rfl) (pv 2) pe_int (fun _ _ => rfl)) (pa_cons (pe_ix (My.ix_tupK (K := K) rfl) (pv 2) pe_int (fun _ _ => rfl)) pa_nil)))))))
  pss_nil)
  (pss_cons (ps_if (pt_cmpR op_eq (pv 4) pe_str (nomark _))
  (pss_one (ps_ret (C8.pe_mt0 c_Box_pass_by hr (by decide) (pv 1))))
  pss_nil)
  (pss_cons (ps_if (pt_cmpR op_eq (pv 4) pe_str (nomark _))
  (pss_one (ps_ret (C8.pe_mt c_Box_day hr (by decide) (pv 1) (pa_cons (pv 0) pa_nil))))
  pss_nil)
  (pss_one (ps_ret (C8.pe_mt c_Box_power hr (by decide) (pv 1) (pa_cons (pv 0) pa_nil))))))))))), ?_⟩
    have w0 : atI x.vs 0 = some (.str x.w) := by cases x <;> rfl
    refine ⟨_, rfl, a, _, _, _, rfl, rfl, ha, w0, ?_⟩
    refine ⟨_, rfl, rfl, _, rfl, ?_⟩
    cases x with
    | bring l s => exact ⟨_, rfl, b, dx, _, rfl, hb.hb, rfl, _, rfl, _, rfl, _, rfl, a, _, _, _, rfl, rfl, ha, rfl, _, rfl, a, _, _, _, rfl, rfl, ha, rfl, H0, b, k, p, l, s, d, rs, S, n, rfl, hB, hk, hg, bd, hn, q⟩
    | code p1 t s =>
      refine ⟨_, rfl, rfl, _, rfl, ?_⟩
      exact ⟨_, rfl, b, dx, _, rfl, hb.hb, rfl, _, rfl, _, rfl, a, _, _, _, rfl, rfl, ha, rfl, _, rfl, a, _, _, _, rfl, rfl, ha, rfl, _, rfl, a, _, _, _, rfl, rfl, ha, rfl, H0, b, k, p1, t, s, d, rs, S, n, rfl, hB, hk, hg, bd, hn, q⟩
    | pass =>
      refine ⟨_, rfl, rfl, _, rfl, ?_⟩
      refine ⟨_, rfl, rfl, _, rfl, ?_⟩
      exact ⟨_, rfl, b, dx, _, rfl, hb.hb, rfl, H0, b, S, n, rfl, hB, bd, hn, q⟩
    | day =>
      refine ⟨_, rfl, rfl, _, rfl, ?_⟩
      refine ⟨_, rfl, rfl, _, rfl, ?_⟩
      refine ⟨_, rfl, rfl, _, rfl, ?_⟩
      exact ⟨_, rfl, b, dx, _, rfl, hb.hb, rfl, _, rfl, H0, b, k, d, rs, S, n, rfl, hB, hk, hg, bd, hn, q⟩
    | power =>
      refine ⟨_, rfl, rfl, _, rfl, ?_⟩
      refine ⟨_, rfl, rfl, _, rfl, ?_⟩
      refine ⟨_, rfl, rfl, _, rfl, ?_⟩
      exact ⟨_, rfl, b, dx, _, rfl, hb.hb, rfl, _, rfl, H0, b, k, d, rs, S, n, rfl, hB, hk, hg, bd, hn, q⟩
theorem c_do_deed (T : Txt K mg) : C8.Cal P w K mg base 6 "do_deed" (sp_do_deed K) [] := by
  obtain ⟨fd, F⟩ := T.f_do_deed
  exact ⟨_, fd, _, _, ok_do_deed T F, T.g_do_deed, F.kp, F.bindsN (fun _ _ _ _ _ _ us hl => match us, hl with | [_, _, _, _], _ => rfl), .nil⟩
def sp_Box_init (K : PySem.W.Frag) : Sp := fun vs H Q _ => ∃ (b dx : Addr), vs = [.ref b] ∧ H b = some (.ins (He.ga K "Box") dx []) ∧
  ∀ H' li dv ds dr, But [b] H H' → [li, dv, ds, dr].Nodup → (∀ a ∈ [li, dv, ds, dr], H a = none) → H' b = some (.ins (He.ga K "Box") dx (bxf S0 li dv ds dr)) → H' li = some (.lst []) → H' dv = some (.dK []) → H' ds = some (.dK []) → H' dr = some (.dK []) → Q .non H'
set_option maxHeartbeats 2000000 in
theorem ok_Box_init (T : Txt K mg) {fd : FuncData} (F : FunD K d_Box_init.name d_Box_init.qual d_Box_init.params d_Box_init.body d_Box_init.scope (d_Box_init.dvs K) (d_Box_init.kws K) (He.fAd K d_Box_init.at_) fd) : FnOk P w K mg base C8.CX0 1 (He.fAd K d_Box_init.at_) fd ["self"] (sp_Box_init K) := by
  refine F.ok sc_Box_init (fun vs H Q E h => ?_) (fun cdv A outer s H vs Q E hr h => ?_)
  · obtain ⟨t, dt, rfl, _⟩ := h
    rfl
  · have hu := L2.hu_of hr
    obtain ⟨t, dt, rfl, ht, q⟩ := h
    refine ⟨_, (PSs.nox ((pss_cons (ps_fld (pv 0) pe_bl rfl)
  (pss_cons (ps_fld (pv 0) (pe_lst pa_nil) rfl)
  (pss_cons (ps_fld (pv 0) pe_str rfl)
  (pss_cons (ps_fld (pv 0) pe_dnewK rfl)
  (pss_cons (ps_fld (pv 0) pe_non rfl)
  (pss_cons (ps_fld (pv 0) pe_non rfl)
  (pss_cons (ps_fld (pv 0) pe_dnewK rfl)
  (pss_one (ps_fld (pv 0) pe_dnewK rfl))))))))))), ?_⟩
    refine ⟨_, rfl, t, _, dt, _, rfl, ht, T.cl_Box, T.no_Box_ajar, (by show 0 < 1000; decide), ?_⟩
    refine ⟨Nat.zero_le _, fun p1 h1 => ?_⟩
    obtain ⟨a1, h1⟩ := up_none h1
    refine ⟨_, rfl, t, _, dt, _, rfl, (by rw [upd_ne a1.symm]; exact upd_same), T.cl_Box, T.no_Box_inside, (by show 1 < 1000; decide), ?_⟩
    refine ⟨_, rfl, t, _, dt, _, rfl, upd_same, T.cl_Box, T.no_Box_taken_for, (by show 2 < 1000; decide), ?_⟩
    refine fun p2 h2 => ?_
    obtain ⟨a2, h2⟩ := up_none h2
    obtain ⟨_, h2⟩ := up_none h2
    obtain ⟨b2, h2⟩ := up_none h2
    obtain ⟨_, h2⟩ := up_none h2
    refine ⟨_, rfl, t, _, dt, _, rfl, (by rw [upd_ne a2.symm]; exact upd_same), T.cl_Box, T.no_Box_valid, (by show 3 < 1000; decide), ?_⟩
    refine ⟨_, rfl, t, _, dt, _, rfl, upd_same, T.cl_Box, T.no_Box_age, (by show 4 < 1000; decide), ?_⟩
    refine ⟨_, rfl, t, _, dt, _, rfl, upd_same, T.cl_Box, T.no_Box_last, (by show 5 < 1000; decide), ?_⟩
    refine fun p3 h3 => ?_
    obtain ⟨a3, h3⟩ := up_none h3
    obtain ⟨_, h3⟩ := up_none h3
    obtain ⟨_, h3⟩ := up_none h3
    obtain ⟨c3, h3⟩ := up_none h3
    obtain ⟨_, h3⟩ := up_none h3
    obtain ⟨_, h3⟩ := up_none h3
    obtain ⟨b3, h3⟩ := up_none h3
    obtain ⟨_, h3⟩ := up_none h3
    refine ⟨_, rfl, t, _, dt, _, rfl, (by rw [upd_ne a3.symm]; exact upd_same), T.cl_Box, T.no_Box_sent, (by show 6 < 1000; decide), ?_⟩
    refine fun p4 h4 => ?_
    obtain ⟨a4, h4⟩ := up_none h4
    obtain ⟨d4, h4⟩ := up_none h4
    obtain ⟨_, h4⟩ := up_none h4
    obtain ⟨_, h4⟩ := up_none h4
    obtain ⟨_, h4⟩ := up_none h4
    obtain ⟨c4, h4⟩ := up_none h4
    obtain ⟨_, h4⟩ := up_none h4
    obtain ⟨_, h4⟩ := up_none h4
    obtain ⟨b4, h4⟩ := up_none h4
    obtain ⟨_, h4⟩ := up_none h4
    refine ⟨_, rfl, t, _, dt, _, rfl, (by rw [upd_ne a4.symm]; exact upd_same), T.cl_Box, T.no_Box_served, (by show 7 < 1000; decide), ?_⟩
    have nt : t ∈ [t] := by simp
    refine q _ p1 p2 p3 p4 ?_ ?_ ?_ upd_same ?_ ?_ ?_ ?_
    · exact ((((((((((((But.refl [t] H).put (.inr nt)).put (.inl h1)).put (.inr nt)).put (.inr nt)).put (.inl h2)).put (.inr nt)).put (.inr nt)).put (.inr nt)).put (.inl h3)).put (.inr nt)).put (.inl h4)).put (.inr nt)
    · simp only [List.nodup_cons, List.mem_cons, List.not_mem_nil, or_false, not_or, not_false_eq_true, List.nodup_nil, and_true]
      exact ⟨⟨b2.symm, b3.symm, b4.symm⟩, ⟨c3.symm, c4.symm⟩, d4.symm⟩
    · intro a ha
      simp only [List.mem_cons, List.not_mem_nil, or_false] at ha
      rcases ha with rfl | rfl | rfl | rfl <;> assumption
    · rw [upd_ne a1, upd_ne b4.symm, upd_ne a1, upd_ne b3.symm, upd_ne a1, upd_ne a1, upd_ne a1, upd_ne b2.symm, upd_ne a1, upd_ne a1, upd_same]
    · rw [upd_ne a2, upd_ne c4.symm, upd_ne a2, upd_ne c3.symm, upd_ne a2, upd_ne a2, upd_ne a2, upd_same]
    · rw [upd_ne a3, upd_ne d4.symm, upd_ne a3, upd_same]
    · rw [upd_ne a4, upd_same]
theorem c_Box_init (T : Txt K mg) : C8.Mak P w K mg base 1 "Box" (He.ga K "Box") (sp_Box_init K) [] := by
  obtain ⟨fd, F⟩ := T.f_Box_init
  exact ⟨_, fd, _, _, T.mk_Box, ok_Box_init T F, T.g_Box, F.bindsN (fun _ _ _ _ _ _ us hl => match us, hl with | [_], _ => rfl), .nil⟩
end
end K25

namespace K25
open PySem PySem.Spec PyProof.Rows L2 My
abbrev PlayS := Int × BoxS × List ToldS
def stepF (rs : List RuleL) (d : Int) (st : PlayS) (x : Deed) : PlayS :=
  (if isBr x = true then st.1 + 1 else st.1, (doF rs d (if isBr x = true then st.1 + 1 else st.1) x st.2.1).1, st.2.2 ++ [(doF rs d (if isBr x = true then st.1 + 1 else st.1) x st.2.1).2])
def runF (rs : List RuleL) (d : Int) (ds : List Deed) : PlayS := ds.foldl (stepF rs d) (0, S0, [])
theorem runF_more {rs : List RuleL} {d : Int} {ds : List Deed} {i : Nat} {x : Deed} (h : ds[i]? = some x) : runF rs d (ds.take (i + 1)) = stepF rs d (runF rs d (ds.take i)) x := by
  unfold runF
  rw [take_more h, List.foldl_append]
  rfl
theorem runF_bd {rs : List RuleL} {d : Int} (hg : GoodB rs) : ∀ (ds : List Deed) (i : Nat), i ≤ ds.length → Bd (16 * i) ((runF rs d (ds.take i)).2.1, T0) := by
  intro ds i
  induction i with
  | zero => intro _; exact ⟨Nat.le_refl _, Nat.le_refl _, Nat.le_refl _, Nat.le_refl _, Nat.le_refl _, Nat.le_refl _, Nat.le_refl _⟩
  | succ i ih =>
    intro hi
    have hx := List.getElem?_eq_getElem (show i < ds.length by omega)
    rw [runF_more hx]
    have := ((ih (by omega)).doF hg (d := d) (k := if isBr ds[i] = true then (runF rs d (ds.take i)).1 + 1 else (runF rs d (ds.take i)).1) (x := ds[i])).self
    exact this.mono (by omega)
theorem runF_len (rs : List RuleL) (d : Int) (ds : List Deed) : (runF rs d ds).2.2.length = ds.length := by
  have hh : ∀ (l : List Deed) (st : PlayS), (l.foldl (stepF rs d) st).2.2.length = st.2.2.length + l.length := by
    intro l
    induction l with
    | nil => intro st; rfl
    | cons z l ih =>
      intro st
      rw [List.foldl_cons, ih, List.length_cons]
      show (st.2.2 ++ [_]).length + l.length = _
      rw [List.length_append]
      show st.2.2.length + 1 + l.length = _
      omega
  unfold runF
  rw [hh]
  show 0 + _ = _
  omega
def hideF (fp : List Addr) (H : Hp) : Hp := fun a => if a ∈ fp then none else H a
theorem hide_same (fp : List Addr) (H : Hp) : Same (hideF fp H) H := fun a o e => by
  unfold hideF at e
  split at e
  · cases e
  · exact e
theorem hide_none {fp : List Addr} {H : Hp} {a : Addr} (h : a ∈ fp) : hideF fp H a = none := if_pos h
theorem hide_some {fp : List Addr} {H : Hp} {a : Addr} {o : HO} (n : a ∉ fp) (h : H a = some o) : hideF fp H a = some o := by
  unfold hideF
  rw [if_neg n]
  exact h
theorem hide_in {fp : List Addr} {H : Hp} {a : Addr} {o : HO} (h : hideF fp H a = some o) : a ∉ fp := fun z => by
  rw [hide_none z] at h
  cases h
/-- a told thing (it, its letters, what was got) that stands apart from the list at sl -/
def TdAt (K : PySem.W.Frag) (H : Hp) (sl : Addr) (z : Addr × Addr × Addr) (U : ToldS) : Prop := ∃ dt yb lw lm, (sl ≠ z.1 ∧ sl ≠ z.2.1 ∧ sl ≠ z.2.2 ∧ sl ≠ lw ∧ sl ≠ lm) ∧ H z.1 = some (.ins (He.ga K "Told") dt (tdf U yb z.2.1 z.2.2 lw lm)) ∧ H z.2.1 = some (.lst (U.letters.map V.int)) ∧ H z.2.2 = some (.lst (U.got.map V.int)) ∧
  H lw = some (.lst (U.wrongs.map V.str)) ∧ H lm = some (.lst (U.moments.map V.str))
/-- the lists of letters and of what was got -/
def lets (ts : List (Addr × Addr × Addr)) : List Addr := ts.flatMap fun z => [z.2.1, z.2.2]
def StoryAt (K : PySem.W.Frag) (H0 H : Hp) (sl : Addr) (Us : List ToldS) : Prop := ∃ ts : List (Addr × Addr × Addr), H sl = some (.lst (ts.map fun z => V.ref z.1)) ∧ Paired (TdAt K H sl) ts Us ∧ (lets ts).Nodup ∧ ∀ x ∈ lets ts, H0 x = none
theorem TdAt.same {K : PySem.W.Frag} {H H' : Hp} {sl : Addr} {z : Addr × Addr × Addr} {U : ToldS} (s : But [sl] H H') (h : TdAt K H sl z U) : TdAt K H' sl z U := by
  obtain ⟨dt, yb, lw, lm, ⟨n1, n2, n3, n4, n5⟩, h1, h2, h3, h4, h5⟩ := h
  exact ⟨dt, yb, lw, lm, ⟨n1, n2, n3, n4, n5⟩, s _ _ (by simpa using n1.symm) h1, s _ _ (by simpa using n2.symm) h2, s _ _ (by simpa using n3.symm) h3, s _ _ (by simpa using n4.symm) h4, s _ _ (by simpa using n5.symm) h5⟩
theorem lets_some {K : PySem.W.Frag} {H : Hp} {sl : Addr} : ∀ {ts : List (Addr × Addr × Addr)} {Us : List ToldS}, Paired (TdAt K H sl) ts Us → ∀ x ∈ lets ts, ∃ o, H x = some o
  | _, _, .nil, x, hx => by cases hx
  | z :: ts, _, .cons r t, x, hx => by
    obtain ⟨dt, yb, lw, lm, _, h1, h2, h3, _⟩ := r
    have hx2 : x ∈ z.2.1 :: z.2.2 :: lets ts := hx
    rcases List.mem_cons.mp hx2 with e | hx2
    · rw [e]; exact ⟨_, h2⟩
    · rcases List.mem_cons.mp hx2 with e | hx2
      · rw [e]; exact ⟨_, h3⟩
      · exact lets_some t x hx2
theorem lets_app (ts us : List (Addr × Addr × Addr)) : lets (ts ++ us) = lets ts ++ lets us := by
  unfold lets
  rw [List.flatMap_append]
/-- behind some deeds: the box, the story, all that stood -/
def PlayedAt (K : PySem.W.Frag) (H H' : Hp) (b sl : Addr) (S : BoxS) (Us : List ToldS) : Prop := ∃ dx li dv ds dr, BxA K (hideF [b, li, dv, ds, dr] H') H' b dx li dv ds dr S ∧ Same H (hideF [b, li, dv, ds, dr] H') ∧ StoryAt K H (hideF [b, li, dv, ds, dr] H') sl Us ∧ H sl = none
theorem bxa_hide {K : PySem.W.Frag} {H : Hp} {b dx li dv ds dr : Addr} {S : BoxS} (nd : [b, li, dv, ds, dr].Nodup) (hb : H b = some (.ins (He.ga K "Box") dx (bxf S li dv ds dr))) (hli : H li = some (.lst (S.inside.map V.int))) (hdv : H dv = some (.dK (kvT S.valid)))
    (hds : H ds = some (.dK (kvT S.sent))) (hdr : H dr = some (.dK (kvT S.served))) : BxA K (hideF [b, li, dv, ds, dr] H) H b dx li dv ds dr S :=
  ⟨hide_same _ _, nd, fun _ ha => hide_none ha, hb, hli, hdv, hds, hdr⟩
section
variable {P : Program} {w : World} {K : PySem.W.Frag} {mg : Str → Option Value} {base : Heap}
def sp_played (K : PySem.W.Frag) : Sp := fun vs H Q _ => ∃ (k a : Addr) (d : Int) (rs : List RuleL) (xs : List V) (ds : List Deed), vs = [.ref k, .ref a] ∧ BookAt K H k d rs ∧ GoodB rs ∧ SqL K H a xs ∧ DeedsAt K H xs ds ∧ ds.length ≤ 50000 ∧
  ∀ H' p b sl, PlayedAt K H H' b sl (runF rs d ds).2.1 (runF rs d ds).2.2 → H' p = some (.tup [.ref b, .ref sl]) → H p = none → Q (.ref p) H'
set_option maxHeartbeats 2000000 in
theorem ok_played (T : Txt K mg) {fd : FuncData} (F : FunD K d_played.name d_played.qual d_played.params d_played.body d_played.scope (d_played.dvs K) (d_played.kws K) (He.fAd K d_played.at_) fd) : FnOk P w K mg base C8.CX0 7 (He.fAd K d_played.at_) fd ["book", "deeds"] (sp_played K) := by
  have c_do_deed := c_do_deed (P := P) (w := w) (base := base) T
  have c_Box_init := c_Box_init (P := P) (w := w) (base := base) T
  refine F.ok sc_played (fun vs H Q E h => ?_) (fun cdv A outer s H vs Q E hr h => ?_)
  · obtain ⟨k, a, d, rs, xs, ds, rfl, _⟩ := h
    rfl
  · have hu := L2.hu_of hr
    obtain ⟨k, a, d, rs, xs, ds, rfl, hk, hg, hS, hD, hl, q⟩ := h
    have hlen : xs.length = ds.length := hD.length
    refine ⟨_, (PSs.nox ((pss_cons (ps_set (i := 2) sc_played.nd rfl (by first | exact Or.inl rfl | exact Or.inr rfl) (My.pe_mk0 c_Box_init hr (by decide) rfl))
  (pss_cons (ps_set (i := 3) sc_played.nd rfl (by first | exact Or.inl rfl | exact Or.inr rfl) pe_int)
  (pss_cons (ps_set (i := 4) sc_played.nd rfl (by first | exact Or.inl rfl | exact Or.inr rfl) (pe_lst pa_nil))
  (pss_cons (ps_for PassesOwn.never rfl (My.pi_listK (K := K) rfl (pv 1)) (pg_name (i := 5) sc_played.nd rfl (by first | exact Or.inl rfl | exact Or.inr rfl))
  (pss_cons (ps_if (pt_cmpR op_eq (pe_ix (My.ix_tupK (K := K) rfl) (pv 5) pe_int (fun _ _ => rfl)) pe_str (nomark _))
  (pss_one (ps_aug (i := 3) sc_played.nd rfl (by first | exact Or.inl rfl | exact Or.inr rfl) pe_int ip_add))
  pss_nil)
  (pss_one (ps_expr (My.pe_bmK (K := K) rfl PySem.F.plainAttrs_list PySem.F.slot_list_append PySem.F.type_list_append mt_append (pv 4) (pa_cons (C8.pe_c c_do_deed hr (by decide) rfl (pa_cons (pv 0) (pa_cons (pv 2) (pa_cons (pv 5) (pa_cons (pv 3) pa_nil))))) pa_nil))))))
  (pss_one (ps_ret (pe_tup (pa_cons (pv 2) (pa_cons (pv 4) pa_nil))))))))))), ?_⟩
    intro b dx nb ndb nex
    have s0 : Same H (upd (upd H dx (.own b)) b (.ins (He.ga K "Box") dx [])) := (same_new ndb).trans (same_upd (Same.refl _) (by rw [upd_ne nex.symm]; exact nb))
    refine ⟨b, dx, rfl, upd_same, fun H1 li dv dsn dr bt nd new h1 h2 h3 h4 h5 => ⟨rfl, ?_⟩⟩
    have new2 : ∀ x ∈ [li, dv, dsn, dr], x ≠ b ∧ H x = none := fun x hx => by
      obtain ⟨y1, y2⟩ := up_none (new x hx)
      obtain ⟨_, y3⟩ := up_none y2
      exact ⟨y1, y3⟩
    have s1 : Same H H1 := fun c o e => bt c o (by simpa using ne_of_none e nb) (s0 _ _ e)
    have ndb5 : [b, li, dv, dsn, dr].Nodup := List.nodup_cons.mpr ⟨fun z => (new2 b z).1 rfl, nd⟩
    have none5 : ∀ x ∈ [b, li, dv, dsn, dr], H x = none := fun x hx => by
      rcases List.mem_cons.mp hx with z | z
      · rw [z]; exact nb
      · exact (new2 x z).2
    refine ⟨Nat.zero_le _, fun sl hsl => ?_⟩
    have nslb : sl ≠ b := (ne_of_none h1 hsl).symm
    have nsl5 : sl ∉ [b, li, dv, dsn, dr] := by
      simp only [List.mem_cons, List.not_mem_nil, or_false, not_or]
      exact ⟨nslb, (ne_of_none h2 hsl).symm, (ne_of_none h3 hsl).symm, (ne_of_none h4 hsl).symm, (ne_of_none h5 hsl).symm⟩
    have hHsl : H sl = none := s1.free hsl
    have ini : PlayedAt K H (upd H1 sl (.lst [])) b sl S0 [] := by
      simp only [List.mem_cons, List.not_mem_nil, or_false, not_or] at nsl5
      refine ⟨dx, li, dv, dsn, dr, bxa_hide ndb5 (by rw [upd_ne nslb.symm]; exact h1) (by rw [upd_ne (Ne.symm nsl5.2.1)]; exact h2) (by rw [upd_ne (Ne.symm nsl5.2.2.1)]; exact h3) (by rw [upd_ne (Ne.symm nsl5.2.2.2.1)]; exact h4) (by rw [upd_ne (Ne.symm nsl5.2.2.2.2)]; exact h5), ?_, ⟨[], ?_, .nil, List.nodup_nil, fun x hx => by cases hx⟩, hHsl⟩
      · intro c o e
        refine hide_some (fun z => ?_) (same_upd s1 hHsl _ _ e)
        rw [none5 c z] at e
        cases e
      · refine hide_some ?_ upd_same
        simp only [List.mem_cons, List.not_mem_nil, or_false, not_or]
        exact nsl5
    have psame : ∀ {H' : Hp} {S : BoxS} {Us : List ToldS}, PlayedAt K H H' b sl S Us → Same H H' := fun ⟨_, _, _, _, _, _, z, _⟩ => z.trans (hide_same _ _)
    refine ⟨_, rfl, a, rfl, ⟨_, (psame ini).seq hS⟩, ?_⟩
    refine for_list (K := K) (a := a) (xs := xs) (fun i σ H' => ∃ u, σ = [some (.ref k), some (.ref a), some (.ref b), some (.int (runF rs d (ds.take i)).1), some (.ref sl), u] ∧ PlayedAt K H H' b sl (runF rs d (ds.take i)).2.1 (runF rs d (ds.take i)).2.2) ⟨_, rfl, ini⟩ (fun i σ H' _ ⟨_, _, z⟩ => (psame z).seq hS) ?_ ?_
    · rintro i y σ H2 hi ⟨u, rfl, hp⟩
      obtain ⟨x, hx, hat⟩ := paired_at hD hi
      obtain ⟨dx2, li2, dv2, ds2, dr2, hB, s2, ⟨ts, hts, htd, hnd, hfr⟩, hsl0⟩ := id hp
      have sH2 : Same H H2 := psame hp
      obtain ⟨ax, rfl, hax⟩ := hat
      have hax2 := same_tup sH2 hax
      have w0 : atI x.vs 0 = some (.str x.w) := by cases x <;> rfl
      have hib : i < ds.length := (List.getElem?_eq_some_iff.mp hx).1
      have bdi := runF_bd (d := d) hg ds i (by omega)
      -- behind the counting
      have last : ∀ n' : Int, n' = (if isBr x = true then (runF rs d (ds.take i)).1 + 1 else (runF rs d (ds.take i)).1) →
          tDrop (tBM K "list" rAppend (tVar 4) (tCons (tCall (sp_do_deed K) [] C8.E0 (tCons (tVar 0) (tCons (tVar 2) (tCons (tVar 5) (tCons (tVar 3) tNil))))) tNil))
            { nx := fun σ H' => ∃ u, σ = [some (.ref k), some (.ref a), some (.ref b), some (.int (runF rs d (ds.take (i + 1))).1), some (.ref sl), u] ∧ PlayedAt K H H' b sl (runF rs d (ds.take (i + 1))).2.1 (runF rs d (ds.take (i + 1))).2.2, rt := Q }
            [some (.ref k), some (.ref a), some (.ref b), some (.int n'), some (.ref sl), some (.ref ax)] H2 := by
        intro n' en
        have hsl2 := hide_same _ _ _ _ hts
        refine ⟨_, rfl, .inl ⟨rfl, _, SqL.of hsl2⟩, _, rfl, _, rfl, _, rfl, _, rfl, hideF [b, li2, dv2, ds2, dr2] H2, b, k, _, x, n', d, rs, _, 16 * i, rfl, ⟨ax, rfl, hax2⟩, ⟨dx2, li2, dv2, ds2, dr2, hB⟩, hk.same s2, hg, bdi, by omega, fun H3 t hx3 => ?_⟩
        obtain ⟨dx3, li3, dv3, ds3, dr3, dt, yb, ll, lg, lw, lm, h3⟩ := hx3
        have hsl3 := h3.same _ _ hts
        refine ⟨sl, _, _, rfl, rfl, hsl3, ?_, ?_⟩
        · rw [List.length_map, htd.length]
          have : (runF rs d (ds.take i)).2.2.length ≤ 50000 := by
            have hh : ∀ (l : List Deed) (st : PlayS), (l.foldl (stepF rs d) st).2.2.length = st.2.2.length + l.length := by
              intro l
              induction l with
              | nil => intro st; rfl
              | cons z l ih =>
                intro st
                rw [List.foldl_cons, ih, List.length_cons]
                show (st.2.2 ++ [_]).length + l.length = _
                rw [List.length_append]
                show st.2.2.length + 1 + l.length = _
                omega
            unfold runF
            rw [hh, List.length_take]
            show 0 + _ ≤ _
            omega
          exact lt_line (by omega)
        · refine ⟨some (.ref ax), ?_, ?_⟩
          · rw [runF_more hx, en]
            rfl
          rw [runF_more hx]
          have nsl : ∀ z ∈ [b, li3, dv3, ds3, dr3, t, ll, lg, lw, lm], sl ≠ z := fun z hz e => by
            rw [← e] at hz
            rw [h3.new sl hz] at hts
            cases hts
          have es : upd H3 sl (.lst (ts.map (fun z => V.ref z.1) ++ [V.ref t])) = upd H3 sl (.lst ((ts ++ [(t, ll, lg)]).map fun z => V.ref z.1)) := by rw [List.map_append]; rfl
          rw [es]
          have nd5 : [b, li3, dv3, ds3, dr3].Nodup := (List.nodup_append.mp (show ([b, li3, dv3, ds3, dr3] ++ [t, ll, lg, lw, lm]).Nodup from h3.nd)).1
          have out5 : ∀ z ∈ [t, ll, lg, lw, lm], z ∉ [b, li3, dv3, ds3, dr3] := fun z hz hz2 => (List.nodup_append.mp (show ([b, li3, dv3, ds3, dr3] ++ [t, ll, lg, lw, lm]).Nodup from h3.nd)).2.2 z hz2 z hz rfl
          have hid : ∀ c o, hideF [b, li2, dv2, ds2, dr2] H2 c = some o → c ≠ sl → hideF [b, li3, dv3, ds3, dr3] (upd H3 sl (.lst ((ts ++ [(t, ll, lg)]).map fun z => V.ref z.1))) c = some o := fun c o e ne => by
            refine hide_some (fun z => ?_) (by rw [upd_ne ne]; exact h3.same _ _ e)
            rw [h3.new c (by
              have : c ∈ [b, li3, dv3, ds3, dr3] ++ [t, ll, lg, lw, lm] := List.mem_append_left _ z
              exact this)] at e
            cases e
          have newt : ∀ z ∈ [t, ll, lg, lw, lm], ∀ o, H3 z = some o → hideF [b, li3, dv3, ds3, dr3] (upd H3 sl (.lst ((ts ++ [(t, ll, lg)]).map fun z => V.ref z.1))) z = some o := fun z hz o e => by
            refine hide_some (out5 z hz) (by
              rw [upd_ne (nsl z (by
                have : z ∈ [b, li3, dv3, ds3, dr3] ++ [t, ll, lg, lw, lm] := List.mem_append_right _ hz
                exact this)).symm]
              exact e)
          refine ⟨dx3, li3, dv3, ds3, dr3, bxa_hide nd5 (by rw [upd_ne (nsl b (by simp)).symm]; subst en; exact h3.hb) (by rw [upd_ne (nsl li3 (by simp)).symm]; subst en; exact h3.hli) (by rw [upd_ne (nsl dv3 (by simp)).symm]; subst en; exact h3.hdv) (by rw [upd_ne (nsl ds3 (by simp)).symm]; subst en; exact h3.hds) (by rw [upd_ne (nsl dr3 (by simp)).symm]; subst en; exact h3.hdr), ?_, ⟨ts ++ [(t, ll, lg)], ?_, ?_, ?_, ?_⟩, hsl0⟩
          · exact fun c o e => hid c o (s2 _ _ e) (ne_of_none e hsl0)
          · refine hide_some (fun z => ?_) upd_same
            exact nsl sl (by
              have : sl ∈ [b, li3, dv3, ds3, dr3] ++ [t, ll, lg, lw, lm] := List.mem_append_left _ z
              exact this) rfl
          · refine Paired.snoc (paired_map (fun z U _ hz => hz.same (fun c o n e => hid c o e (by simpa using n))) htd) ?_
            refine ⟨dt, yb, lw, lm, ⟨nsl t (by simp), nsl ll (by simp), nsl lg (by simp), nsl lw (by simp), nsl lm (by simp)⟩, ?_, ?_, ?_, ?_, ?_⟩
            · subst en; exact newt t (by simp) _ h3.ht
            · subst en; exact newt ll (by simp) _ h3.hll
            · subst en; exact newt lg (by simp) _ h3.hlg
            · subst en; exact newt lw (by simp) _ h3.hlw
            · subst en; exact newt lm (by simp) _ h3.hlm
          · rw [lets_app]
            refine List.nodup_append.mpr ⟨hnd, ?_, fun x hx y hy e => ?_⟩
            · show [ll, lg].Nodup
              simp only [List.nodup_cons, List.mem_cons, List.not_mem_nil, or_false, not_false_eq_true, List.nodup_nil, and_true]
              exact nd_ne h3.nd (i := 6) (j := 7) rfl rfl (by decide)
            · obtain ⟨o, ho⟩ := lets_some htd x hx
              have hy2 : y ∈ [ll, lg] := hy
              simp only [List.mem_cons, List.not_mem_nil, or_false] at hy2
              rw [e] at ho
              rcases hy2 with z | z
              · rw [z, h3.new ll (by simp)] at ho
                cases ho
              · rw [z, h3.new lg (by simp)] at ho
                cases ho
          · intro x hx
            rw [lets_app] at hx
            rcases List.mem_append.mp hx with hx | hx
            · exact hfr x hx
            · have hy2 : x ∈ [ll, lg] := hx
              simp only [List.mem_cons, List.not_mem_nil, or_false] at hy2
              rcases hy2 with z | z
              · rw [z]; exact s2.free (h3.new ll (by simp))
              · rw [z]; exact s2.free (h3.new lg (by simp))
      refine ⟨_, rfl, ax, _, _, _, rfl, rfl, hax2, w0, rfl, _, rfl, ?_⟩
      cases x with
      | bring l s => exact ⟨_, rfl, _, _, rfl, rfl, last _ rfl⟩
      | code p t s => exact last _ rfl
      | pass => exact last _ rfl
      | day => exact last _ rfl
      | power => exact last _ rfl
    · rintro σ H2 ⟨u, rfl, hp⟩
      rw [hlen, List.take_length] at hp
      refine ⟨_, rfl, _, rfl, by show 2 ≤ sizeLine; decide, fun p hpn => ?_⟩
      have hs2 := psame hp
      refine q _ p b sl ?_ upd_same (hs2.free hpn)
      obtain ⟨dx2, li2, dv2, ds2, dr2, hB, s2, ⟨ts, hts, htd, hnd, hfr⟩, hsl0⟩ := hp
      have old : ∀ c ∈ [b, li2, dv2, ds2, dr2], c ≠ p := fun c hc e => by
        rw [e] at hc
        simp only [List.mem_cons, List.not_mem_nil, or_false] at hc
        rcases hc with z | z | z | z | z
        · exact absurd (hB.hb.symm.trans (z ▸ hpn)) (by intro q; cases q)
        · exact absurd (hB.hli.symm.trans (z ▸ hpn)) (by intro q; cases q)
        · exact absurd (hB.hdv.symm.trans (z ▸ hpn)) (by intro q; cases q)
        · exact absurd (hB.hds.symm.trans (z ▸ hpn)) (by intro q; cases q)
        · exact absurd (hB.hdr.symm.trans (z ▸ hpn)) (by intro q; cases q)
      have hid : ∀ c o, hideF [b, li2, dv2, ds2, dr2] H2 c = some o → hideF [b, li2, dv2, ds2, dr2] (upd H2 p (.tup [.ref b, .ref sl])) c = some o := fun c o e => by
        have e2 := hide_same _ _ _ _ e
        exact hide_some (hide_in e) (by rw [upd_ne (ne_of_none e2 hpn)]; exact e2)
      refine ⟨dx2, li2, dv2, ds2, dr2, bxa_hide hB.nd (by rw [upd_ne (old b (by simp))]; exact hB.hb) (by rw [upd_ne (old li2 (by simp))]; exact hB.hli) (by rw [upd_ne (old dv2 (by simp))]; exact hB.hdv) (by rw [upd_ne (old ds2 (by simp))]; exact hB.hds) (by rw [upd_ne (old dr2 (by simp))]; exact hB.hdr), fun c o e => hid c o (s2 _ _ e), ⟨ts, hid _ _ hts, paired_map (fun z U _ hz => hz.same (fun c o _ e => hid c o e)) htd, hnd, hfr⟩, hsl0⟩
theorem c_played (T : Txt K mg) : C8.Cal P w K mg base 7 "played" (sp_played K) [] := by
  obtain ⟨fd, F⟩ := T.f_played
  exact ⟨_, fd, _, _, ok_played T F, T.g_played, F.kp, F.bindsN (fun _ _ _ _ _ _ us hl => match us, hl with | [_, _], _ => rfl), .nil⟩
end
end K25

namespace K25
open PySem PySem.Spec PyProof.Rows L2 My
/-- a report as play tells it -/
def ItAt (H : Hp) (z : Addr × Addr × Addr) (U : ToldS) : Prop := H z.1 = some (.tup [.ref z.2.1, .bl U.opened, .ref z.2.2]) ∧ H z.2.1 = some (.lst (U.letters.map V.int)) ∧ H z.2.2 = some (.lst (U.got.map V.int))
/-- the list that play tells: all of it new, its lists apart -/
def RepAt (H0 H : Hp) (p : Addr) (Us : List ToldS) : Prop := ∃ rs : List (Addr × Addr × Addr), H p = some (.lst (rs.map fun z => V.ref z.1)) ∧ Paired (ItAt H) rs Us ∧ (lets rs).Nodup ∧ (∀ x ∈ lets rs, H0 x = none ∧ x ≠ p) ∧ H0 p = none
theorem paired_take {α β : Type} {F : α → β → Prop} : ∀ {l : List α} {m : List β} (n : Nat), Paired F l m → Paired F (l.take n) (m.take n)
  | _, _, 0, _ => .nil
  | _, _, _ + 1, .nil => .nil
  | _, _, n + 1, .cons r t => .cons r (paired_take n t)
theorem lets_mem {ts : List (Addr × Addr × Addr)} {z : Addr × Addr × Addr} (h : z ∈ ts) : z.2.1 ∈ lets ts ∧ z.2.2 ∈ lets ts := by
  unfold lets
  exact ⟨List.mem_flatMap.mpr ⟨z, h, by simp⟩, List.mem_flatMap.mpr ⟨z, h, by simp⟩⟩
theorem td_get {K : PySem.W.Frag} {H : Hp} {sl : Addr} {ts : List (Addr × Addr × Addr)} {Us : List ToldS} (h : Paired (TdAt K H sl) ts Us) {i : Nat} {y : V} (e : (ts.map fun z => V.ref z.1)[i]? = some y) : ∃ z U, ts[i]? = some z ∧ Us[i]? = some U ∧ y = .ref z.1 ∧ TdAt K H sl z U := by
  obtain ⟨z, hz, rfl⟩ := map_get e
  obtain ⟨U, hU, ht⟩ := paired_at h hz
  exact ⟨z, U, hz, hU, rfl, ht⟩
section
variable {P : Program} {w : World} {K : PySem.W.Frag} {mg : Str → Option Value} {base : Heap}
def sp_Told_report (K : PySem.W.Frag) : Sp := fun vs H Q _ => ∃ (t dt : Addr) (yb : Bool) (ll lg lw lm : Addr) (U : ToldS), vs = [.ref t] ∧ H t = some (.ins (He.ga K "Told") dt (tdf U yb ll lg lw lm)) ∧ ∀ p, H p = none → Q (.ref p) (upd H p (.tup [.ref ll, .bl U.opened, .ref lg]))
set_option maxHeartbeats 2000000 in
theorem ok_Told_report (T : Txt K mg) {fd : FuncData} (F : FunD K d_Told_report.name d_Told_report.qual d_Told_report.params d_Told_report.body d_Told_report.scope (d_Told_report.dvs K) (d_Told_report.kws K) (He.fAd K d_Told_report.at_) fd) : FnOk P w K mg base C8.CX0 1 (He.fAd K d_Told_report.at_) fd ["self"] (sp_Told_report K) := by
  refine F.ok sc_Told_report (fun vs H Q E h => ?_) (fun cdv A outer s H vs Q E hr h => ?_)
  · obtain ⟨t, dt, yb, ll, lg, lw, lm, U, rfl, _⟩ := h
    rfl
  · have hu := L2.hu_of hr
    obtain ⟨t, dt, yb, ll, lg, lw, lm, U, rfl, h1, q⟩ := h
    refine ⟨_, (PSs.nox ((pss_one (ps_ret (pe_tup (pa_cons (My.pe_fldK (K := K) rfl (pv 0) rfl) (pa_cons (My.pe_fldK (K := K) rfl (pv 0) rfl) (pa_cons (My.pe_fldK (K := K) rfl (pv 0) rfl) pa_nil)))))))), ?_⟩
    exact ⟨_, rfl, t, _, dt, _, _, rfl, h1, T.cl_Told, T.no_Told_letters, rfl, _, rfl, t, _, dt, _, _, rfl, h1, T.cl_Told, T.no_Told_opened, rfl, _, rfl, t, _, dt, _, _, rfl, h1, T.cl_Told, T.no_Told_got, rfl, by show 3 ≤ sizeLine; decide, q⟩
theorem c_Told_report (T : Txt K mg) : C8.Met P w K mg base 1 (He.ga K "Told") "report" (sp_Told_report K) [] := by
  obtain ⟨fd, F⟩ := T.f_Told_report
  exact ⟨_, fd, _, _, T.cl_Told, T.m_Told_report, ok_Told_report T F, F.bindsN (fun _ _ _ _ _ _ us hl => match us, hl with | [_], _ => rfl), .nil⟩
def sp_play (K : PySem.W.Frag) : Sp := fun vs H Q _ => ∃ (k a : Addr) (d : Int) (rs : List RuleL) (xs : List V) (ds : List Deed), vs = [.ref k, .ref a] ∧ BookAt K H k d rs ∧ GoodB rs ∧ SqL K H a xs ∧ DeedsAt K H xs ds ∧ Playable ds ∧ ds.length ≤ 50000 ∧
  ∀ H' p, Same H H' → RepAt H H' p (runF rs d ds).2.2 → Q (.ref p) H'
set_option maxHeartbeats 2000000 in
theorem ok_play (T : Txt K mg) {fd : FuncData} (F : FunD K d_play.name d_play.qual d_play.params d_play.body d_play.scope (d_play.dvs K) (d_play.kws K) (He.fAd K d_play.at_) fd) : FnOk P w K mg base C8.CX0 8 (He.fAd K d_play.at_) fd ["book", "deeds"] (sp_play K) := by
  have c_Told_report := c_Told_report (P := P) (w := w) (base := base) T
  have c_played := c_played (P := P) (w := w) (base := base) T
  have c_check_playable := c_check_playable (P := P) (w := w) (base := base) T
  refine F.ok sc_play (fun vs H Q E h => ?_) (fun cdv A outer s H vs Q E hr h => ?_)
  · obtain ⟨k, a, d, rs, xs, ds, rfl, _⟩ := h
    rfl
  · have hu := L2.hu_of hr
    obtain ⟨k, a, d, rs, xs, ds, rfl, hk, hg, hS, hD, hP, hl, q⟩ := h
    refine ⟨_, (PSs.nox ((pss_cons (ps_expr (C8.pe_c c_check_playable hr (by decide) rfl (pa_cons (pv 1) pa_nil)))
  (pss_cons (ps_asg (C8.pe_c c_played hr (by decide) rfl (pa_cons (pv 0) (pa_cons (pv 1) pa_nil))) (My.pg_tupK (K := K) (n := 2) rfl rfl (pgs_cons (pg_name (i := 2) sc_play.nd rfl (by first | exact Or.inl rfl | exact Or.inr rfl)) (pgs_cons (pg_name (i := 3) sc_play.nd rfl (by first | exact Or.inl rfl | exact Or.inr rfl)) pgs_nil))))
  (pss_one (ps_ret (pe_lc (own := [("told", 4)]) (g := (gName 4)) (tt := tYes) (by rfl) sc_play.nd (My.pi_listK (K := K) rfl (pv 3)) (blkOk_by (N := N_play) (sc := defScope s_play) (by decide +kernel)) (fun _ _ _ _ _ => (pg_name (i := 4) sc_play.nd rfl (by first | exact Or.inl rfl | exact Or.inr rfl))) (fun _ _ _ _ _ => pts_nil) (fun _ _ _ _ _ => (C8.pe_mt0 c_Told_report hr (by decide) (pv 4)))))))))), ?_⟩
    refine ⟨_, rfl, a, xs, ds, rfl, hS, hD, hP, fun H1 s1 => ?_⟩
    refine ⟨_, rfl, _, rfl, k, a, d, rs, xs, ds, rfl, hk.same s1, hg, s1.seq hS, hD.same s1, hl, fun H2 p b sl hP2 hp hpn => ?_⟩
    obtain ⟨dx, li, dv, dsn, dr, hB, s2, ⟨ts, hts0, htd0, hnd, hfr⟩, hsl0⟩ := hP2
    have hh := hide_same [b, li, dv, dsn, dr] H2
    have hts := hh _ _ hts0
    have htd := paired_map (fun z U _ hz => TdAt.same (fun c o _ e => hh c o e) hz) htd0
    have sH : Same H H2 := s1.trans (s2.trans hh)
    refine ⟨p, _, rfl, SqT.of hp, rfl, _, _, rfl, _, _, rfl, rfl, ?_⟩
    refine ⟨_, rfl, sl, rfl, ⟨_, SqL.of hts⟩, fun D hD => lc_list (K := K) (a := sl) (xs := ts.map fun z => V.ref z.1)
      (fun i H' => Same H2 H' ∧ ∃ us : List (Addr × Addr × Addr), us.length = i ∧ H' D = some (.lst (us.map fun z => V.ref z.1)) ∧ Paired (ItAt H') us ((runF rs d ds).2.2.take i) ∧ lets us = lets (ts.take i)) ⟨same_new hD, [], rfl, upd_same, .nil, rfl⟩ (fun i H' _ z => SqL.of (z.1 _ _ hts)) ?_ ?_⟩
    · rintro i y H3 hi ⟨s3, us, hul, hD3, hup, hule⟩
      obtain ⟨z, U, hz, hU, rfl, ht⟩ := td_get htd hi
      obtain ⟨dt, yb, lw, lm, _, h1, h2, h3, h4, h5⟩ := ht.same (fun c o _ e => s3 c o e)
      have hlt : i < ts.length := (List.getElem?_eq_some_iff.mp hz).1
      have hlts : ts.length ≤ 50000 := by
        rw [htd.length]
        have := runF_len rs d ds
        omega
      refine ⟨rfl, ?_⟩
      refine ⟨_, rfl, z.1, dt, _, rfl, h1, rfl, z.1, dt, yb, _, _, lw, lm, U, rfl, h1, fun q hq => ?_⟩
      have nqD : q ≠ D := fun e => by rw [e, hD3] at hq; cases hq
      refine ⟨_, by rw [upd_ne nqD.symm]; exact hD3, by rw [List.length_map, hul]; exact lt_line (by omega), same_upd (s3.trans (same_new hq)) hD, us ++ [(q, z.2.1, z.2.2)], by rw [List.length_append, hul]; rfl, by rw [upd_same, List.map_append]; rfl, ?_, ?_⟩
      · have hold : ∀ c o, H3 c = some o → c ≠ D → (upd (upd H3 q (.tup [.ref z.2.1, .bl U.opened, .ref z.2.2])) D (.lst ((us.map fun z => V.ref z.1) ++ [.ref q]))) c = some o := fun c o e n => by
          rw [upd_ne n, upd_ne (ne_of_none e hq)]
          exact e
        have nD : ∀ {c : Addr} {o : HO}, H2 c = some o → c ≠ D := fun e => ne_of_none e hD
        rw [take_more hU]
        refine Paired.snoc (paired_map (fun x V hx hv => ?_) hup) ?_
        · obtain ⟨a1, a2, a3⟩ := hv
          have hx2 : x.2.1 ∈ lets (ts.take i) ∧ x.2.2 ∈ lets (ts.take i) := by rw [← hule]; exact lets_mem hx
          have live : ∀ c ∈ lets (ts.take i), c ≠ D := fun c hc => by
            obtain ⟨o, ho⟩ := lets_some htd c (by
              unfold lets at hc ⊢
              obtain ⟨w, hw, hw2⟩ := List.mem_flatMap.mp hc
              exact List.mem_flatMap.mpr ⟨w, List.mem_of_mem_take hw, hw2⟩)
            exact nD ho
          exact ⟨hold _ _ a1 (ne_of a1 hD3 (fun e => by cases e)), hold _ _ a2 (live _ hx2.1), hold _ _ a3 (live _ hx2.2)⟩
        · obtain ⟨dt0, yb0, lw0, lm0, _, g1, g2, g3, _⟩ := ht
          exact ⟨by rw [upd_ne nqD, upd_same], hold _ _ h2 (nD g2), hold _ _ h3 (nD g3)⟩
      · rw [take_more hz, lets_app, lets_app, hule]
        rfl
    · rintro H3 ⟨s3, us, hul, hD3, hup, hule⟩
      rw [List.length_map] at hul hup hule
      rw [List.take_length] at hule
      rw [htd.length, List.take_length] at hup
      refine q _ D (sH.trans s3) ⟨us, hD3, hup, by rw [hule]; exact hnd, fun x hx => ?_, sH.free hD⟩
      rw [hule] at hx
      obtain ⟨o, ho⟩ := lets_some htd x hx
      exact ⟨s1.free (hfr x hx), ne_of_none ho hD⟩
theorem c_play (T : Txt K mg) : C8.Cal P w K mg base 8 "play" (sp_play K) [] := by
  obtain ⟨fd, F⟩ := T.f_play
  exact ⟨_, fd, _, _, ok_play T F, T.g_play, F.kp, F.bindsN (fun _ _ _ _ _ _ us hl => match us, hl with | [_, _], _ => rfl), .nil⟩
theorem k_play (T : Txt K mg) : My.CalK2 P w K mg base 8 "play" (sp_play K) "book" "deeds" := by
  obtain ⟨fd, F⟩ := T.f_play
  exact ⟨_, fd, ok_play T F, T.g_play, F.kp, My.kw2_of F (fun _ _ _ _ _ _ _ _ => rfl)⟩
/-- how the box stands, as boxes tells it; ys: the valid ones in ascending order -/
def StdAt (H0 H : Hp) (p : Addr) (S : BoxS) (ys : List Int) : Prop := ∃ l1 l2, H p = some (.tup [.bl S.ajar, .ref l1, .str S.tf, .ref l2, oV S.age]) ∧ H l1 = some (.lst (S.inside.map V.int)) ∧ H l2 = some (.lst (ys.map V.int)) ∧ l1 ≠ l2 ∧ H0 l1 = none ∧ H0 l2 = none ∧ H0 p = none ∧ ys.Perm S.valid ∧ ys.Pairwise (· ≤ ·)
def sp_Box_stands (K : PySem.W.Frag) : Sp := fun vs H Q _ => ∃ (b dx li dv ds dr : Addr) (S : BoxS), vs = [.ref b] ∧ H b = some (.ins (He.ga K "Box") dx (bxf S li dv ds dr)) ∧ H li = some (.lst (S.inside.map V.int)) ∧ H dv = some (.dK (kvT S.valid)) ∧ S.valid.length ≤ 50000 ∧ ∀ H' p ys, Same H H' → StdAt H H' p S ys → Q (.ref p) H'
set_option maxHeartbeats 2000000 in
theorem ok_Box_stands (T : Txt K mg) {fd : FuncData} (F : FunD K d_Box_stands.name d_Box_stands.qual d_Box_stands.params d_Box_stands.body d_Box_stands.scope (d_Box_stands.dvs K) (d_Box_stands.kws K) (He.fAd K d_Box_stands.at_) fd) : FnOk P w K mg base C8.CX0 1 (He.fAd K d_Box_stands.at_) fd ["self"] (sp_Box_stands K) := by
  refine F.ok sc_Box_stands (fun vs H Q E h => ?_) (fun cdv A outer s H vs Q E hr h => ?_)
  · obtain ⟨b, dx, li, dv, ds, dr, S, rfl, _⟩ := h
    rfl
  · have hu := L2.hu_of hr
    obtain ⟨b, dx, li, dv, ds, dr, S, rfl, hb, hli, hdv, h64, q⟩ := h
    refine ⟨_, (PSs.nox ((pss_one (ps_ret (pe_tup (pa_cons (My.pe_fldK (K := K) rfl (pv 0) rfl) (pa_cons (pe_callTy (My.list_ofK (K := K) rfl) (by rfl) T.list (by decide +kernel) (pa_cons (My.pe_fldK (K := K) rfl (pv 0) rfl) pa_nil)) (pa_cons (My.pe_fldK (K := K) rfl (pv 0) rfl) (pa_cons (pe_callB (My.sortedW rfl) (by rfl) T.sorted (by decide +kernel) (pa_cons (My.pe_fldK (K := K) rfl (pv 0) rfl) pa_nil)) (pa_cons (My.pe_fldK (K := K) rfl (pv 0) rfl) pa_nil)))))))))), ?_⟩
    refine ⟨_, rfl, b, _, dx, _, _, rfl, hb, T.cl_Box, T.no_Box_ajar, rfl, ?_⟩
    refine ⟨_, rfl, b, _, dx, _, _, rfl, hb, T.cl_Box, T.no_Box_inside, rfl, li, _, rfl, .inl (SqL.of hli), fun l1 hl1 => ?_⟩
    have up1 : ∀ {c : Addr} {o : HO}, H c = some o → (upd H l1 (.lst (S.inside.map V.int))) c = some o := fun e => by rw [upd_ne (ne_of_none e hl1)]; exact e
    refine ⟨_, rfl, b, _, dx, _, _, rfl, up1 hb, T.cl_Box, T.no_Box_taken_for, rfl, ?_⟩
    refine ⟨_, rfl, b, _, dx, _, _, rfl, up1 hb, T.cl_Box, T.no_Box_valid, rfl, dv, _, S.valid, rfl, .inl (up1 hdv), by unfold kvT; rw [List.map_map]; rfl, Nat.le_trans h64 (by decide), fun ys l2 hy1 hy2 hl2 => ?_⟩
    obtain ⟨n21, hl2'⟩ := up_none hl2
    refine ⟨_, rfl, b, _, dx, _, _, rfl, (by rw [upd_ne (ne_of_none (up1 hb) hl2)]; exact up1 hb), T.cl_Box, T.no_Box_age, rfl, by show 5 ≤ sizeLine; decide, fun r hr => ?_⟩
    obtain ⟨nr2, hr'⟩ := up_none hr
    obtain ⟨nr1, hr''⟩ := up_none hr'
    refine q _ r ys ((same_new hl1).trans ((same_new hl2).trans (same_new hr))) ⟨l1, l2, upd_same, ?_, ?_, n21.symm, hl1, hl2', hr'', hy1, hy2⟩
    · rw [upd_ne nr1.symm, upd_ne n21.symm, upd_same]
    · rw [upd_ne nr2.symm, upd_same]
theorem c_Box_stands (T : Txt K mg) : C8.Met P w K mg base 1 (He.ga K "Box") "stands" (sp_Box_stands K) [] := by
  obtain ⟨fd, F⟩ := T.f_Box_stands
  exact ⟨_, fd, _, _, T.cl_Box, T.m_Box_stands, ok_Box_stands T F, F.bindsN (fun _ _ _ _ _ _ us hl => match us, hl with | [_], _ => rfl), .nil⟩
def sp_boxes (K : PySem.W.Frag) : Sp := fun vs H Q _ => ∃ (k a : Addr) (d : Int) (rs : List RuleL) (xs : List V) (ds : List Deed), vs = [.ref k, .ref a] ∧ BookAt K H k d rs ∧ GoodB rs ∧ SqL K H a xs ∧ DeedsAt K H xs ds ∧ Playable ds ∧ ds.length ≤ 50000 ∧ (runF rs d ds).2.1.valid.length ≤ 50000 ∧
  ∀ H' p ys, Same H H' → StdAt H H' p (runF rs d ds).2.1 ys → Q (.ref p) H'
set_option maxHeartbeats 2000000 in
theorem ok_boxes (T : Txt K mg) {fd : FuncData} (F : FunD K d_boxes.name d_boxes.qual d_boxes.params d_boxes.body d_boxes.scope (d_boxes.dvs K) (d_boxes.kws K) (He.fAd K d_boxes.at_) fd) : FnOk P w K mg base C8.CX0 8 (He.fAd K d_boxes.at_) fd ["book", "deeds"] (sp_boxes K) := by
  have c_Box_stands := c_Box_stands (P := P) (w := w) (base := base) T
  have c_played := c_played (P := P) (w := w) (base := base) T
  have c_check_playable := c_check_playable (P := P) (w := w) (base := base) T
  refine F.ok sc_boxes (fun vs H Q E h => ?_) (fun cdv A outer s H vs Q E hr h => ?_)
  · obtain ⟨k, a, d, rs, xs, ds, rfl, _⟩ := h
    rfl
  · have hu := L2.hu_of hr
    obtain ⟨k, a, d, rs, xs, ds, rfl, hk, hg, hS, hD, hP, hl, h64, q⟩ := h
    refine ⟨_, (PSs.nox ((pss_cons (ps_expr (C8.pe_c c_check_playable hr (by decide) rfl (pa_cons (pv 1) pa_nil)))
  (pss_cons (ps_asg (C8.pe_c c_played hr (by decide) rfl (pa_cons (pv 0) (pa_cons (pv 1) pa_nil))) (My.pg_tupK (K := K) (n := 2) rfl rfl (pgs_cons (pg_name (i := 2) sc_boxes.nd rfl (by first | exact Or.inl rfl | exact Or.inr rfl)) (pgs_cons (pg_name (i := 3) sc_boxes.nd rfl (by first | exact Or.inl rfl | exact Or.inr rfl)) pgs_nil))))
  (pss_one (ps_ret (C8.pe_mt0 c_Box_stands hr (by decide) (pv 2)))))))), ?_⟩
    refine ⟨_, rfl, a, xs, ds, rfl, hS, hD, hP, fun H1 s1 => ?_⟩
    refine ⟨_, rfl, _, rfl, k, a, d, rs, xs, ds, rfl, hk.same s1, hg, s1.seq hS, hD.same s1, hl, fun H2 p b sl hP2 hp hpn => ?_⟩
    obtain ⟨dx, li, dv, dsn, dr, hB, s2, _, hsl0⟩ := hP2
    have hh := hide_same [b, li, dv, dsn, dr] H2
    have sH : Same H H2 := s1.trans (s2.trans hh)
    refine ⟨p, _, rfl, SqT.of hp, rfl, _, _, rfl, _, _, rfl, rfl, ?_⟩
    refine ⟨_, rfl, b, dx, _, rfl, hB.hb, rfl, b, dx, li, dv, dsn, dr, _, rfl, hB.hb, hB.hli, hB.hdv, h64, fun H3 p2 ys s3 hst => ?_⟩
    obtain ⟨l1, l2, c1, c2, c3, c4, c5, c6, c7, c8, c9⟩ := hst
    exact q _ _ ys (sH.trans s3) ⟨l1, l2, c1, c2, c3, c4, sH.free c5, sH.free c6, sH.free c7, c8, c9⟩
theorem c_boxes (T : Txt K mg) : C8.Cal P w K mg base 8 "boxes" (sp_boxes K) [] := by
  obtain ⟨fd, F⟩ := T.f_boxes
  exact ⟨_, fd, _, _, ok_boxes T F, T.g_boxes, F.kp, F.bindsN (fun _ _ _ _ _ _ us hl => match us, hl with | [_, _], _ => rfl), .nil⟩
theorem k_boxes (T : Txt K mg) : My.CalK2 P w K mg base 8 "boxes" (sp_boxes K) "book" "deeds" := by
  obtain ⟨fd, F⟩ := T.f_boxes
  exact ⟨_, fd, ok_boxes T F, T.g_boxes, F.kp, My.kw2_of F (fun _ _ _ _ _ _ _ _ => rfl)⟩
end
end K25

namespace K25
open PySem PySem.Spec PyProof.Rows L2 My
/-! ### faults -/
def flW (U : ToldS) (i : Nat) : List (Str × Nat) := U.wrongs.map fun x => (x, i)
def fl : Nat → List ToldS → List (Str × Nat)
  | _, [] => []
  | n, U :: r => flW U n ++ fl (n + 1) r
theorem fl_app : ∀ (n : Nat) (A B : List ToldS), fl n (A ++ B) = fl n A ++ fl (n + A.length) B
  | n, [], B => by simp [fl]
  | n, U :: r, B => by
    show flW U n ++ fl (n + 1) (r ++ B) = (flW U n ++ fl (n + 1) r) ++ fl (n + (r.length + 1)) B
    rw [fl_app (n + 1) r B, List.append_assoc, show n + 1 + r.length = n + (r.length + 1) by omega]
theorem fl_more {Us : List ToldS} {i : Nat} {U : ToldS} (h : Us[i]? = some U) : fl 0 (Us.take (i + 1)) = fl 0 (Us.take i) ++ flW U i := by
  have hi : i < Us.length := (List.getElem?_eq_some_iff.mp h).1
  rw [take_more h, fl_app, List.length_take, show 0 + min i Us.length = i by omega]
  show _ ++ (flW U i ++ []) = _
  rw [List.append_nil]
theorem act_w (x : BoxS × ToldS) (a : Str) : (act x a).2.wrongs = x.2.wrongs := by
  unfold act
  split
  · unfold sendCode
    split
    · split <;> rfl
    · rfl
  · split
    · rfl
    · split
      · rfl
      · split <;> rfl
theorem foldl_w (r : RuleL) : ∀ x : BoxS × ToldS, (r.foldl act x).2.wrongs = x.2.wrongs := by
  induction r with
  | nil => intro x; rfl
  | cons a r ih => intro x; rw [List.foldl_cons, ih, act_w]
theorem carry_w (r : RuleL) (m : Str) (x : BoxS × ToldS) : (carry r m x).2.wrongs = x.2.wrongs := foldl_w r _
theorem go_w (sh : Bool) (m1 m2 : Str) (r1 r2 : RuleL) (x : BoxS × ToldS) : (goAway sh m1 m2 r1 r2 x).2.wrongs = x.2.wrongs := by
  unfold goAway
  split
  · split
    · rw [carry_w]
    · rw [carry_w]
  · rfl
theorem lay_w (p : Int) (l : Bool) (x : BoxS × ToldS) : (layIn p l x).2.wrongs.length ≤ x.2.wrongs.length + 1 := by
  unfold layIn
  split
  · show (if x.1.inside.isEmpty = true then x.2.wrongs else x.2.wrongs ++ [("two" : Str)]).length ≤ _
    split
    · omega
    · rw [List.length_append]; exact Nat.le_refl _
  · omega
theorem take_w (o : Option Int) (x : BoxS × ToldS) : (letTake o x).2.wrongs.length ≤ x.2.wrongs.length + 1 := by
  show (if x.1.inside.any (fun p => decide (some p ≠ o)) = true then x.2.wrongs ++ [("wrong" : Str)] else x.2.wrongs).length ≤ _
  split
  · rw [List.length_append]; exact Nat.le_refl _
  · omega
theorem doF_w (rs : List RuleL) (d n : Int) (x : Deed) (S : BoxS) : (doF rs d n x S).2.wrongs.length ≤ 2 := by
  cases x with
  | bring l s =>
    show (bringF rs n l s S).2.wrongs.length ≤ 2
    unfold bringF
    split
    · rw [go_w]
      have := lay_w n l (carry (at_ rs 0) "given" ({ S with ajar := true, age := some 0, last := some n }, { T0 with opened := true }))
      rw [carry_w] at this
      exact Nat.le_trans this (by show 1 ≤ 2; decide)
    · exact Nat.zero_le _
  | code p t s =>
    show (codeF rs p t s S).2.wrongs.length ≤ 2
    unfold codeF
    have aw : ∀ (c : Bool) (wd : Str) (y : BoxS × ToldS), (addW c wd y).2.wrongs.length ≤ y.2.wrongs.length + 1 := fun c wd y => by
      unfold addW
      split
      · show (y.2.wrongs ++ [wd]).length ≤ _
        rw [List.length_append]; exact Nat.le_refl _
      · omega
    split
    · rw [go_w]
      have h1 := aw (missF p S) "empty" (takeIf p t (carry (at_ rs 3) "opened" ({ S with ajar := true }, { T0 with opened := true })))
      have h2 : (takeIf p t (carry (at_ rs 3) "opened" ({ S with ajar := true }, { T0 with opened := true }))).2.wrongs.length ≤ 1 := by
        unfold takeIf
        split
        · have := take_w (some p) (carry (at_ rs 3) "opened" ({ S with ajar := true }, { T0 with opened := true }))
          rw [carry_w] at this
          exact this
        · rw [carry_w]; exact Nat.zero_le _
      omega
    · have := aw (decide (p ∈ S.inside) && decide (p ∈ S.sent)) "refused" (S, T0)
      exact Nat.le_trans this (by show 1 ≤ 2; decide)
  | pass =>
    show (passBy S).2.wrongs.length ≤ 2
    unfold passBy
    split
    · exact Nat.le_trans (take_w none (S, T0)) (by show 1 ≤ 2; decide)
    · exact Nat.zero_le _
  | day =>
    show (dayF d rs S).2.wrongs.length ≤ 2
    unfold dayF
    split
    · exact Nat.zero_le _
    · split
      · rw [carry_w]; exact Nat.zero_le _
      · exact Nat.zero_le _
  | power =>
    show (powerF rs S).2.wrongs.length ≤ 2
    unfold powerF
    rw [carry_w]; exact Nat.zero_le _
theorem run_w (rs : List RuleL) (d : Int) (ds : List Deed) : ∀ U ∈ (runF rs d ds).2.2, U.wrongs.length ≤ 2 := by
  have hh : ∀ (l : List Deed) (st : PlayS), (∀ U ∈ st.2.2, U.wrongs.length ≤ 2) → ∀ U ∈ (l.foldl (stepF rs d) st).2.2, U.wrongs.length ≤ 2 := by
    intro l
    induction l with
    | nil => intro st h; exact h
    | cons z l ih =>
      intro st h
      rw [List.foldl_cons]
      refine ih _ fun U hU => ?_
      rcases List.mem_append.mp (show U ∈ st.2.2 ++ [_] from hU) with hU | hU
      · exact h U hU
      · rw [List.mem_singleton.mp hU]
        exact doF_w _ _ _ _ _
  exact hh ds _ fun U hU => by cases hU
theorem fl_len : ∀ (n : Nat) (Us : List ToldS), (∀ U ∈ Us, U.wrongs.length ≤ 2) → (fl n Us).length ≤ 2 * Us.length
  | _, [], _ => Nat.le_refl _
  | n, U :: r, h => by
    have h1 := fl_len (n + 1) r fun V hV => h V (List.mem_cons_of_mem _ hV)
    have h2 := h U (List.mem_cons_self ..)
    show (flW U n ++ fl (n + 1) r).length ≤ 2 * (r.length + 1)
    rw [List.length_append]
    unfold flW
    rw [List.length_map]
    omega
def FItAt (H : Hp) (t : Addr) (x : Str × Nat) : Prop := H t = some (.tup [.str x.1, .int (x.2 : Nat)])
def FltAt (H0 H : Hp) (p : Addr) (l : List (Str × Nat)) : Prop := ∃ us : List Addr, H p = some (.lst (us.map V.ref)) ∧ Paired (FItAt H) us l ∧ H0 p = none
section
variable {P : Program} {w : World} {K : PySem.W.Frag} {mg : Str → Option Value} {base : Heap}
def sp_faults (K : PySem.W.Frag) : Sp := fun vs H Q _ => ∃ (k a : Addr) (d : Int) (rs : List RuleL) (xs : List V) (ds : List Deed), vs = [.ref k, .ref a] ∧ BookAt K H k d rs ∧ GoodB rs ∧ SqL K H a xs ∧ DeedsAt K H xs ds ∧ Playable ds ∧ ds.length ≤ 50000 ∧
  ∀ H' p, Same H H' → FltAt H H' p (fl 0 (runF rs d ds).2.2) → Q (.ref p) H'
set_option maxHeartbeats 2000000 in
theorem ok_faults (T : Txt K mg) {fd : FuncData} (F : FunD K d_faults.name d_faults.qual d_faults.params d_faults.body d_faults.scope (d_faults.dvs K) (d_faults.kws K) (He.fAd K d_faults.at_) fd) : FnOk P w K mg base C8.CX0 8 (He.fAd K d_faults.at_) fd ["book", "deeds"] (sp_faults K) := by
  have c_played := c_played (P := P) (w := w) (base := base) T
  have c_check_playable := c_check_playable (P := P) (w := w) (base := base) T
  refine F.ok sc_faults (fun vs H Q E h => ?_) (fun cdv A outer s H vs Q E hr h => ?_)
  · obtain ⟨k, a, d, rs, xs, ds, rfl, _⟩ := h
    rfl
  · have hu := L2.hu_of hr
    obtain ⟨k, a, d, rs, xs, ds, rfl, hk, hg, hS, hD, hP, hl, q⟩ := h
    refine ⟨_, (PSs.nox ((pss_cons (ps_expr (C8.pe_c c_check_playable hr (by decide) rfl (pa_cons (pv 1) pa_nil)))
  (pss_cons (ps_asg (C8.pe_c c_played hr (by decide) rfl (pa_cons (pv 0) (pa_cons (pv 1) pa_nil))) (My.pg_tupK (K := K) (n := 2) rfl rfl (pgs_cons (pg_name (i := 2) sc_faults.nd rfl (by first | exact Or.inl rfl | exact Or.inr rfl)) (pgs_cons (pg_name (i := 3) sc_faults.nd rfl (by first | exact Or.inl rfl | exact Or.inr rfl)) pgs_nil))))
  (pss_one (ps_ret (pe_lc2 (own := [("index", 4), ("told", 5), ("kind", 6)]) (vs1 := [6]) (tt := tYes) (tt1 := tYes) (by rfl) sc_faults.nd (pi_enum (by rfl) T.enumerate (pa_cons (pv 3) pa_nil)) (blkOk_by (N := N_faults) (sc := defScope s_faults) (by decide +kernel)) (by decide) (fun _ _ _ _ _ => (My.pg_tupK (K := K) (n := 2) rfl rfl (pgs_cons (pg_name (i := 4) sc_faults.nd rfl (by first | exact Or.inl rfl | exact Or.inr rfl)) (pgs_cons (pg_name (i := 5) sc_faults.nd rfl (by first | exact Or.inl rfl | exact Or.inr rfl)) pgs_nil)))) (fun _ _ _ _ _ => pts_nil) (fun _ _ _ _ _ => (My.pi_listK (K := K) rfl (My.pe_fldK (K := K) rfl (pv 5) rfl))) (fun _ _ _ _ _ => (pg_name (i := 6) sc_faults.nd rfl (by first | exact Or.inl rfl | exact Or.inr rfl))) (fun _ _ _ _ _ => pts_nil) (fun _ _ _ _ _ => (pe_tup (pa_cons (pv 6) (pa_cons (pv 4) pa_nil))))))))))), ?_⟩
    refine ⟨_, rfl, a, xs, ds, rfl, hS, hD, hP, fun H1 s1 => ?_⟩
    refine ⟨_, rfl, _, rfl, k, a, d, rs, xs, ds, rfl, hk.same s1, hg, s1.seq hS, hD.same s1, hl, fun H2 p b sl hP2 hp hpn => ?_⟩
    obtain ⟨dx, li, dv, dsn, dr, hB, s2, ⟨ts, hts0, htd0, hnd, hfr⟩, hsl0⟩ := hP2
    have hh := hide_same [b, li, dv, dsn, dr] H2
    have hts := hh _ _ hts0
    have htd := paired_map (fun z U _ hz => TdAt.same (fun c o _ e => hh c o e) hz) htd0
    have sH : Same H H2 := s1.trans (s2.trans hh)
    have hrl := runF_len rs d ds
    have hrw := run_w rs d ds
    generalize (runF rs d ds).2.2 = Us at htd hrl hrw q
    have short : ∀ i, (fl 0 (Us.take i)).length ≤ 100000 := fun i => by
      have := fl_len 0 (Us.take i) fun U hU => hrw U (List.mem_of_mem_take hU)
      have h2 : (Us.take i).length ≤ Us.length := by rw [List.length_take]; omega
      omega
    refine ⟨p, _, rfl, SqT.of hp, rfl, _, _, rfl, _, _, rfl, rfl, ?_⟩
    refine ⟨_, rfl, sl, _, rfl, SqL.of hts, fun D hD => ?_⟩
    refine lc2_out (walk_enum (xs := ts.map fun z => V.ref z.1)) (fun i H' => Same H2 H' ∧ ∃ us : List Addr, H' D = some (.lst (us.map V.ref)) ∧ Paired (FItAt H') us (fl 0 (Us.take i))) ⟨same_new hD, [], upd_same, .nil⟩ (fun i H' _ z => SqL.of (z.1 _ _ hts)) ?_ ?_
    · rintro i x H3 H4 hi ⟨s3, us, hD3, hup⟩ ⟨t0, x1, y, rfl, ht0, rfl, e1, hy⟩
      cases e1
      obtain ⟨z, U, hz, hU, rfl, ht⟩ := td_get htd hy
      have s4 : Same H3 (upd H3 t0 (.tup [.int (i : Nat), .ref z.1])) := same_new ht0
      obtain ⟨dt, yb, lw, lm, _, g1, g2, g3, g4, g5⟩ := ht
      have h1 := s4 _ _ (s3 _ _ g1)
      have h4 := s4 _ _ (s3 _ _ g4)
      have nt0D : t0 ≠ D := fun e => by rw [e, hD3] at ht0; cases ht0
      refine ⟨t0, _, rfl, SqT.of upd_same, rfl, _, _, rfl, _, _, rfl, rfl, rfl, ?_⟩
      refine ⟨_, rfl, z.1, _, dt, _, _, rfl, h1, T.cl_Told, T.no_Told_wrongs, rfl, lw, rfl, ⟨_, SqL.of h4⟩, ?_⟩
      refine lc2_in (walk_list (xs := U.wrongs.map V.str)) (fun j H' => Same (upd H3 t0 (.tup [.int (i : Nat), .ref z.1])) (upd H' D (.lst (us.map V.ref))) ∧ Same H2 H' ∧ H' lw = some (.lst (U.wrongs.map V.str)) ∧ ∃ vs : List Addr, H' D = some (.lst (vs.map V.ref)) ∧ Paired (FItAt H') vs (fl 0 (Us.take i) ++ (flW U i).take j)) ?_ (fun j H' _ z => SqL.of z.2.2.1) ?_ ?_
      · refine ⟨?_, s3.trans s4, h4, us, by rw [upd_ne nt0D.symm]; exact hD3, ?_⟩
        · intro c o e
          by_cases hc : c = D
          · subst hc
            rw [upd_ne nt0D.symm, hD3] at e
            rw [upd_same]
            exact e
          · rw [upd_ne hc]; exact e
        · rw [List.take_zero, List.append_nil]
          exact paired_map (fun t x _ hx => s4 _ _ hx) hup
      · rintro j x H5 H6 hj ⟨s5, s52, hlw5, vs, hD5, hvp⟩ ⟨rfl, hx⟩
        obtain ⟨wd, hwd, rfl⟩ := map_get hx
        have hlwD : lw ≠ D := ne_of_none g4 hD
        refine ⟨rfl, ?_⟩
        refine ⟨_, rfl, _, rfl, by show 2 ≤ sizeLine; decide, fun q hq => ?_⟩
        have nqD : q ≠ D := fun e => by rw [e, hD5] at hq; cases hq
        have hlt : j < U.wrongs.length := (List.getElem?_eq_some_iff.mp hwd).1
        have hold : ∀ c o, H6 c = some o → c ≠ D → (upd (upd H6 q (.tup [.str wd, .int (i : Nat)])) D (.lst (vs.map V.ref ++ [.ref q]))) c = some o := fun c o e n => by
          rw [upd_ne n, upd_ne (ne_of_none e hq)]
          exact e
        refine ⟨_, by rw [upd_ne nqD.symm]; exact hD5, ?_, ?_, same_upd (s52.trans (same_new hq)) hD, hold _ _ hlw5 hlwD, vs ++ [q], by rw [upd_same, List.map_append]; rfl, ?_⟩
        · rw [List.length_map, hvp.length, List.length_append]
          have a1 := short i
          have a2 : ((flW U i).take j).length ≤ 2 := by
            have := hrw U (List.mem_of_getElem? hU)
            rw [List.length_take]
            unfold flW
            rw [List.length_map]
            omega
          exact lt_line (by omega)
        · intro c o e
          have e5 := s5 c o e
          by_cases hc : c = D
          · subst hc
            rw [upd_same] at e5 ⊢
            exact e5
          · rw [upd_ne hc] at e5 ⊢
            exact hold _ _ e5 hc
        · have em : (flW U i)[j]? = some (wd, i) := by
            unfold flW
            rw [List.getElem?_map, hwd]
            rfl
          rw [take_more em, ← List.append_assoc]
          refine Paired.snoc (paired_map (fun t x _ hx => hold _ _ hx (ne_of hx hD5 (fun e => by cases e))) hvp) ?_
          show upd (upd H6 q _) D _ q = _
          rw [upd_ne nqD, upd_same]
      · rintro H5 ⟨s5, s52, hlw5, vs, hD5, hvp⟩
        refine ⟨s52, vs, hD5, ?_⟩
        rw [fl_more hU]
        have e9 : (flW U i).take (U.wrongs.map V.str).length = flW U i := List.take_of_length_le (by unfold flW; rw [List.length_map, List.length_map]; exact Nat.le_refl _)
        rw [e9] at hvp
        exact hvp
    · rintro H3 ⟨s3, us, hD3, hup⟩
      rw [List.length_map, htd.length, List.take_length] at hup
      exact q _ D (sH.trans s3) ⟨us, hD3, hup, sH.free hD⟩
theorem c_faults (T : Txt K mg) : C8.Cal P w K mg base 8 "faults" (sp_faults K) [] := by
  obtain ⟨fd, F⟩ := T.f_faults
  exact ⟨_, fd, _, _, ok_faults T F, T.g_faults, F.kp, F.bindsN (fun _ _ _ _ _ _ us hl => match us, hl with | [_, _], _ => rfl), .nil⟩
theorem k_faults (T : Txt K mg) : My.CalK2 P w K mg base 8 "faults" (sp_faults K) "book" "deeds" := by
  obtain ⟨fd, F⟩ := T.f_faults
  exact ⟨_, fd, ok_faults T F, T.g_faults, F.kp, My.kw2_of F (fun _ _ _ _ _ _ _ _ => rfl)⟩
end
end K25

namespace K25
open PySem PySem.Spec PyProof.Rows L2 My
/-! ### data -/
theorem dp_flatInts (K : PySem.W.Frag) (H : Hp) : ∀ l : List Int, DpAll K H (l.map V.int) (l.map PyData.int)
  | [] => .nil
  | a :: l => .cons (.int a) (dp_flatInts K H l)
theorem lay_ints : ∀ l : List Int, PyData.canLayAll0 (l.map PyData.int) = true
  | [] => rfl
  | a :: l => by
    show (true && PyData.canLayAll0 (l.map PyData.int)) = true
    rw [lay_ints l]
    rfl
theorem dep_ints : ∀ l : List Int, PyData.depthAll (l.map PyData.int) = 0
  | [] => rfl
  | a :: l => by
    show max 0 (PyData.depthAll (l.map PyData.int)) = 0
    rw [dep_ints l]
    rfl
/-- data that may be compared: laid out, of small depth -/
structure Sm (n : Nat) (d : PyData) : Prop where
  lay : d.canLay0 = true
  dep : d.depth ≤ n
theorem Sm.shaped {n : Nat} {d : PyData} (h : Sm n d) (e : n ≤ 64) : SeqAt.shaped d = true := Bool.and_eq_true_iff.mpr ⟨h.lay, decide_eq_true (Nat.le_trans h.dep e)⟩
theorem Sm.refl {n : Nat} {d : PyData} (h : Sm n d) : PyData.eqv d d = true := SeqAt.eqv_refl d h.lay
theorem sm_int (i : Int) : Sm 0 (.int i) := ⟨rfl, Nat.le_refl _⟩
theorem sm_bool (i : Bool) : Sm 0 (.bool i) := ⟨rfl, Nat.le_refl _⟩
theorem sm_none : Sm 0 .none := ⟨rfl, Nat.le_refl _⟩
theorem lay_all : ∀ {ds : List PyData} {n : Nat}, (∀ d ∈ ds, Sm n d) → PyData.canLayAll0 ds = true ∧ PyData.depthAll ds ≤ n
  | [], n, _ => ⟨rfl, Nat.zero_le _⟩
  | d :: ds, n, h => by
    obtain ⟨h1, h2⟩ := lay_all (ds := ds) fun x hx => h x (List.mem_cons_of_mem _ hx)
    have h3 := h d (List.mem_cons_self ..)
    refine ⟨Bool.and_eq_true_iff.mpr ⟨h3.lay, h1⟩, ?_⟩
    show max d.depth (PyData.depthAll ds) ≤ n
    exact Nat.max_le.mpr ⟨h3.dep, h2⟩
theorem sm_list {ds : List PyData} {n : Nat} (h : ∀ d ∈ ds, Sm n d) : Sm (n + 1) (.list ds) := ⟨(lay_all h).1, Nat.succ_le_succ (lay_all h).2⟩
theorem sm_tuple {ds : List PyData} {n : Nat} (h : ∀ d ∈ ds, Sm n d) : Sm (n + 1) (.tuple ds) := ⟨(lay_all h).1, Nat.succ_le_succ (lay_all h).2⟩
theorem Sm.mono {n m : Nat} {d : PyData} (h : Sm n d) (e : n ≤ m) : Sm m d := ⟨h.lay, Nat.le_trans h.dep e⟩
theorem sm_ints (l : List Int) : Sm 1 (.list (l.map PyData.int)) := sm_list fun d hd => by
  obtain ⟨i, _, rfl⟩ := List.mem_map.mp hd
  exact sm_int i
def repD (U : ToldS) : PyData := .tuple [.list (U.letters.map PyData.int), .bool U.opened, .list (U.got.map PyData.int)]
theorem sm_rep (U : ToldS) : Sm 2 (repD U) := sm_tuple fun d hd => by
  simp only [List.mem_cons, List.not_mem_nil, or_false] at hd
  rcases hd with rfl | rfl | rfl
  · exact sm_ints _
  · exact (sm_bool _).mono (by decide)
  · exact sm_ints _
theorem sm_reps (Us : List ToldS) : Sm 3 (.list (Us.map repD)) := sm_list fun d hd => by
  obtain ⟨i, _, rfl⟩ := List.mem_map.mp hd
  exact sm_rep i
theorem dp_it {K : PySem.W.Frag} {H : Hp} {z : Addr × Addr × Addr} {U : ToldS} (h : ItAt H z U) : Dp K H (.ref z.1) (repD U) := by
  obtain ⟨h1, h2, h3⟩ := h
  exact .tup (SqT.of h1) (.cons (.lst (SqL.of h2) (dp_flatInts K H _)) (.cons (.bl _) (.cons (.lst (SqL.of h3) (dp_flatInts K H _)) .nil)))
theorem dp_its {K : PySem.W.Frag} {H : Hp} : ∀ {rs : List (Addr × Addr × Addr)} {Us : List ToldS}, Paired (ItAt H) rs Us → DpAll K H (rs.map fun z => V.ref z.1) (Us.map repD)
  | _, _, .nil => .nil
  | _, _, .cons r t => .cons (dp_it r) (dp_its t)
/-- a list of reports, however it is made -/
def DueAt (H : Hp) (u : Addr) (Us : List ToldS) : Prop := ∃ rs : List (Addr × Addr × Addr), H u = some (.lst (rs.map fun z => V.ref z.1)) ∧ Paired (ItAt H) rs Us
theorem DueAt.dp {K : PySem.W.Frag} {H : Hp} {u : Addr} {Us : List ToldS} (h : DueAt H u Us) : Dp K H (.ref u) (.list (Us.map repD)) := by
  obtain ⟨rs, h1, h2⟩ := h
  exact .lst (SqL.of h1) (dp_its h2)
theorem ItAt.same {H H' : Hp} {z : Addr × Addr × Addr} {U : ToldS} (s : Same H H') (h : ItAt H z U) : ItAt H' z U := ⟨s _ _ h.1, s _ _ h.2.1, s _ _ h.2.2⟩
theorem DueAt.same {H H' : Hp} {u : Addr} {Us : List ToldS} (s : Same H H') (h : DueAt H u Us) : DueAt H' u Us := by
  obtain ⟨rs, h1, h2⟩ := h
  exact ⟨rs, s _ _ h1, paired_map (fun z U _ hz => hz.same s) h2⟩
theorem RepAt.due {H0 H : Hp} {p : Addr} {Us : List ToldS} (h : RepAt H0 H p Us) : DueAt H p Us := by
  obtain ⟨rs, h1, h2, _⟩ := h
  exact ⟨rs, h1, h2⟩
theorem sok {x : Str} (h : PyData.canLay0 (.str x) = true) : Sm 0 (.str x) := ⟨h, Nat.le_refl _⟩
def deedD : Deed → PyData
  | .bring l s => .tuple [.str "bring", .bool l, .bool s]
  | .code p t s => .tuple [.str "code", .int p, .bool t, .bool s]
  | .pass => .tuple [.str "pass"]
  | .day => .tuple [.str "day"]
  | .power => .tuple [.str "power"]
theorem sm_deed (d : Deed) : Sm 1 (deedD d) := by
  cases d with
  | bring l s =>
    refine sm_tuple fun d hd => ?_
    simp only [List.mem_cons, List.not_mem_nil, or_false] at hd
    rcases hd with rfl | rfl | rfl
    · exact sok (by decide +kernel)
    · exact sm_bool _
    · exact sm_bool _
  | code p t s =>
    refine sm_tuple fun d hd => ?_
    simp only [List.mem_cons, List.not_mem_nil, or_false] at hd
    rcases hd with rfl | rfl | rfl | rfl
    · exact sok (by decide +kernel)
    · exact sm_int _
    · exact sm_bool _
    · exact sm_bool _
  | _ =>
    refine sm_tuple fun d hd => ?_
    simp only [List.mem_cons, List.not_mem_nil, or_false] at hd
    rcases hd with rfl
    exact sok (by decide +kernel)
theorem dp_deed {K : PySem.W.Frag} {H : Hp} {v : V} {d : Deed} (h : DeedAt K H v d) : Dp K H v (deedD d) := by
  obtain ⟨a, rfl, h⟩ := h
  cases d with
  | bring l s => exact .tup h (.cons (.str _) (.cons (.bl _) (.cons (.bl _) .nil)))
  | code p t s => exact .tup h (.cons (.str _) (.cons (.int _) (.cons (.bl _) (.cons (.bl _) .nil))))
  | pass => exact .tup h (.cons (.str _) .nil)
  | day => exact .tup h (.cons (.str _) .nil)
  | power => exact .tup h (.cons (.str _) .nil)
theorem dp_deeds {K : PySem.W.Frag} {H : Hp} : ∀ {xs : List V} {ds : List Deed}, DeedsAt K H xs ds → DpAll K H xs (ds.map deedD)
  | _, _, .nil => .nil
  | _, _, .cons r t => .cons (dp_deed r) (dp_deeds t)
theorem sm_deeds (ds : List Deed) : Sm 2 (.list (ds.map deedD)) := sm_list fun d hd => by
  obtain ⟨i, _, rfl⟩ := List.mem_map.mp hd
  exact sm_deed i
theorem nilD {K : PySem.W.Frag} {H : Hp} {a : Addr} (h : H a = some (.lst [])) : Dp K H (.ref a) (.list []) := .lst (SqL.of h) .nil
theorem sm_nil : Sm 1 (.list []) := sm_list fun d hd => by cases hd
section
variable {P : Program} {w : World} {K : PySem.W.Frag} {mg : Str → Option Value} {base : Heap}
def sp_law_is_whole (K : PySem.W.Frag) : Sp := fun vs H Q _ => ∃ n : Int, vs = [.int n] ∧ Q (.bl true) H
set_option maxHeartbeats 2000000 in
theorem ok_law_is_whole (T : Txt K mg) {fd : FuncData} (F : FunD K d_law_is_whole.name d_law_is_whole.qual d_law_is_whole.params d_law_is_whole.body d_law_is_whole.scope (d_law_is_whole.dvs K) (d_law_is_whole.kws K) (He.fAd K d_law_is_whole.at_) fd) : FnOk P w K mg base C8.CX0 1 (He.fAd K d_law_is_whole.at_) fd ["thing"] (sp_law_is_whole K) := by
  refine F.ok sc_law_is_whole (fun vs H Q E h => ?_) (fun cdv A outer s H vs Q E hr h => ?_)
  · obtain ⟨n, rfl, _⟩ := h
    rfl
  · have hu := L2.hu_of hr
    obtain ⟨n, rfl, q⟩ := h
    refine ⟨_, (PSs.nox ((pss_one (ps_ret (pe_and (pe_callB (My.isiK (K := K) rfl) (by rfl) T.isinstance (by decide +kernel) (pa_cons (pv 0) (pa_cons (pe_bltn (v := .ty "int") (u := .type "int") rfl T.int (by decide +kernel) rfl) pa_nil))) (pe_one (pe_not (pe_callB (My.isiK (K := K) rfl) (by rfl) T.isinstance (by decide +kernel) (pa_cons (pv 0) (pa_cons (pe_bltn (v := .ty "bool") (u := .type "bool") rfl T.bool (by decide +kernel) rfl) pa_nil)))))))))), ?_⟩
    refine ⟨_, rfl, _, _, _, _, _, rfl, .ty "int", .base (.int n), L2.kit_ty (by decide +kernel), true, rfl, ?_⟩
    exact ⟨_, rfl, _, _, _, _, _, rfl, .ty "bool", .base (.int n), L2.kit_ty (by decide +kernel), false, rfl, q⟩
theorem c_law_is_whole (T : Txt K mg) : C8.Cal P w K mg base 1 "_law_is_whole" (sp_law_is_whole K) [] := by
  obtain ⟨fd, F⟩ := T.f_law_is_whole
  exact ⟨_, fd, _, _, ok_law_is_whole T F, T.g_law_is_whole, F.kp, F.bindsN (fun _ _ _ _ _ _ us hl => match us, hl with | [_], _ => rfl), .nil⟩
def sp_law_is_report (K : PySem.W.Frag) : Sp := fun vs H Q _ => ∃ (z : Addr × Addr × Addr) (U : ToldS), vs = [.ref z.1] ∧ ItAt H z U ∧ U.letters.length + U.got.length ≤ 2000000 ∧ ∀ H', Same H H' → Q (.bl true) H'
set_option maxHeartbeats 2000000 in
theorem ok_law_is_report (T : Txt K mg) {fd : FuncData} (F : FunD K d_law_is_report.name d_law_is_report.qual d_law_is_report.params d_law_is_report.body d_law_is_report.scope (d_law_is_report.dvs K) (d_law_is_report.kws K) (He.fAd K d_law_is_report.at_) fd) : FnOk P w K mg base C8.CX0 2 (He.fAd K d_law_is_report.at_) fd ["thing"] (sp_law_is_report K) := by
  have c_law_is_whole := c_law_is_whole (P := P) (w := w) (base := base) T
  refine F.ok sc_law_is_report (fun vs H Q E h => ?_) (fun cdv A outer s H vs Q E hr h => ?_)
  · obtain ⟨z, U, rfl, _⟩ := h
    rfl
  · have hu := L2.hu_of hr
    obtain ⟨z, U, rfl, ⟨h1, h2, h3⟩, hl, q⟩ := h
    refine ⟨_, (PSs.nox ((pss_cons (ps_if (PW.pt (pw_or (pt_not (pt_val (pe_callB (My.isiK (K := K) rfl) (by rfl) T.isinstance (by decide +kernel) (pa_cons (pv 0) (pa_cons (pe_bltn (v := .ty "tuple") (u := .type "tuple") rfl T.tuple (by decide +kernel) rfl) pa_nil))))) (pw_or (pt_cmpR op_ne (pe_callB (My.len_seqK (K := K) rfl) (by rfl) T.len (by decide +kernel) (pa_cons (pv 0) pa_nil)) pe_int (nomark _)) (pw_or1 (pt_not (pt_val (pe_callB (My.isiK (K := K) rfl) (by rfl) T.isinstance (by decide +kernel) (pa_cons (pe_ix (My.ix_tupK (K := K) rfl) (pv 0) pe_int (fun _ _ => rfl)) (pa_cons (pe_bltn (v := .ty "bool") (u := .type "bool") rfl T.bool (by decide +kernel) rfl) pa_nil)))))))))
  (pss_one (ps_ret pe_bl))
  pss_nil)
  (pss_cons (ps_if (PW.pt (pw_or (pt_not (pt_val (pe_callB (My.isiK (K := K) rfl) (by rfl) T.isinstance (by decide +kernel) (pa_cons (pe_ix (My.ix_tupK (K := K) rfl) (pv 0) pe_int (fun _ _ => rfl)) (pa_cons (pe_bltn (v := .ty "list") (u := .type "list") rfl T.list (by decide +kernel) rfl) pa_nil))))) (pw_or1 (pt_not (pt_val (pe_callB (My.isiK (K := K) rfl) (by rfl) T.isinstance (by decide +kernel) (pa_cons (pe_ix (My.ix_tupK (K := K) rfl) (pv 0) pe_int (fun _ _ => rfl)) (pa_cons (pe_bltn (v := .ty "list") (u := .type "list") rfl T.list (by decide +kernel) rfl) pa_nil))))))))
  (pss_one (ps_ret pe_bl))
  pss_nil)
  (pss_one (ps_ret (pe_cmpR (My.eqDK (K := K) rfl hr.units) (pe_lc (own := [("one", 1)]) (g := (gName 1)) (by rfl) sc_law_is_report.nd (My.pi_listK (K := K) rfl (pe_op op_cat (pe_ix (My.ix_tupK (K := K) rfl) (pv 0) pe_int (fun _ _ => rfl)) (pe_ix (My.ix_tupK (K := K) rfl) (pv 0) pe_int (fun _ _ => rfl)))) (blkOk_by (N := N_law_is_report) (sc := defScope s_law_is_report) (by decide +kernel)) (fun _ _ _ _ _ => (pg_name (i := 1) sc_law_is_report.nd rfl (by first | exact Or.inl rfl | exact Or.inr rfl))) (fun _ _ _ _ _ => (pts_one (pt_not (pt_val (C8.pe_c c_law_is_whole hr (by decide) rfl (pa_cons (pv 1) pa_nil)))))) (fun _ _ _ _ _ => (pv 1))) (pe_lst pa_nil) (nomark _)))))))), ?_⟩
    have hT := SqT.of (K := K) h1
    refine ⟨_, rfl, _, _, _, _, _, rfl, .ty "tuple", tyx_tup hT, L2.kit_ty (by decide +kernel), true, rfl, ?_⟩
    refine ⟨_, rfl, _, _, rfl, .inr hT, rfl, _, rfl, ?_⟩
    refine ⟨_, rfl, _, _, 1, _, rfl, rfl, hT, rfl, _, _, _, _, _, rfl, .ty "bool", .base (.bl _), L2.kit_ty (by decide +kernel), true, rfl, ?_⟩
    refine ⟨_, rfl, _, _, 0, _, rfl, rfl, hT, rfl, _, _, _, _, _, rfl, .ty "list", tyx_lst (SqL.of h2), L2.kit_ty (by decide +kernel), true, rfl, ?_⟩
    refine ⟨_, rfl, _, _, 2, _, rfl, rfl, hT, rfl, _, _, _, _, _, rfl, .ty "list", tyx_lst (SqL.of h3), L2.kit_ty (by decide +kernel), true, rfl, ?_⟩
    refine ⟨_, rfl, _, _, 0, _, rfl, rfl, hT, rfl, _, rfl, _, _, 2, _, rfl, rfl, hT, rfl, z.2.1, z.2.2, _, _, rfl, rfl, h2, h3, ?_, fun c hc => ?_⟩
    · rw [List.length_map, List.length_map]
      exact Nat.le_trans hl (by decide)
    have ec : U.letters.map V.int ++ U.got.map V.int = (U.letters ++ U.got).map V.int := by rw [List.map_append]
    rw [ec]
    refine ⟨c, rfl, ⟨_, SqL.of upd_same⟩, fun D hD => ?_⟩
    obtain ⟨nDc, hD0⟩ := up_none hD
    refine lc_list (K := K) (a := c) (xs := (U.letters ++ U.got).map V.int) (fun i H' => Same H H' ∧ H' c = some (.lst ((U.letters ++ U.got).map V.int)) ∧ H' D = some (.lst [])) ⟨same_upd (same_new hc) hD0, by rw [upd_ne nDc.symm]; exact upd_same, upd_same⟩ (fun i H' _ p => SqL.of p.2.1) ?_ ?_
    · rintro i y H2 hi ⟨s2, hc2, hD2⟩
      obtain ⟨n, hn, rfl⟩ := map_get hi
      exact ⟨rfl, _, rfl, n, rfl, true, rfl, s2, hc2, hD2⟩
    · rintro H2 ⟨s2, hc2, hD2⟩
      refine ⟨Nat.zero_le _, fun e he => ?_⟩
      refine ⟨.list [], .list [], nilD (by rw [upd_ne (ne_of_none hD2 he)]; exact hD2), nilD upd_same, sm_nil.shaped (by decide), sm_nil.shaped (by decide), ?_⟩
      exact q _ (s2.trans (same_new he))
theorem c_law_is_report (T : Txt K mg) : C8.Cal P w K mg base 2 "_law_is_report" (sp_law_is_report K) [] := by
  obtain ⟨fd, F⟩ := T.f_law_is_report
  exact ⟨_, fd, _, _, ok_law_is_report T F, T.g_law_is_report, F.kp, F.bindsN (fun _ _ _ _ _ _ us hl => match us, hl with | [_], _ => rfl), .nil⟩
end
end K25

namespace K25
open PySem PySem.Spec PyProof.Rows L2 My
theorem paired_ix {α β : Type} {F : α → β → Prop} : ∀ {l : List α} {m : List β}, l.length = m.length → (∀ (i : Nat) (x : α) (y : β), l[i]? = some x → m[i]? = some y → F x y) → Paired F l m
  | [], [], _, _ => .nil
  | [], _ :: _, e, _ => by cases e
  | _ :: _, [], e, _ => by cases e
  | x :: l, y :: m, e, h => .cons (h 0 x y rfl rfl) (paired_ix (Nat.succ.inj e) fun i a b ha hb => h (i + 1) a b ha hb)
theorem lets_nd {rs : List (Addr × Addr × Addr)} (h : (lets rs).Nodup) : (∀ z ∈ rs, z.2.1 ≠ z.2.2) ∧ ∀ (i j : Nat) (z w : Addr × Addr × Addr), rs[i]? = some z → rs[j]? = some w → i ≠ j → z.2.1 ≠ w.2.1 ∧ z.2.1 ≠ w.2.2 ∧ z.2.2 ≠ w.2.1 ∧ z.2.2 ≠ w.2.2 := by
  unfold lets at h
  obtain ⟨h1, h2⟩ := List.pairwise_flatMap.mp h
  refine ⟨fun z hz => ?_, fun i j z w hi hj ne => ?_⟩
  · have := h1 z hz
    simp only [List.pairwise_cons, List.mem_cons, List.not_mem_nil, or_false] at this
    exact this.1 _ rfl
  · obtain ⟨hi1, hi2⟩ := List.getElem?_eq_some_iff.mp hi
    obtain ⟨hj1, hj2⟩ := List.getElem?_eq_some_iff.mp hj
    rcases Nat.lt_or_gt_of_ne ne with lt | lt
    · have := List.pairwise_iff_getElem.mp h2 i j hi1 hj1 lt
      rw [hi2, hj2] at this
      exact ⟨this _ (by simp) _ (by simp), this _ (by simp) _ (by simp), this _ (by simp) _ (by simp), this _ (by simp) _ (by simp)⟩
    · have := List.pairwise_iff_getElem.mp h2 j i hj1 hi1 lt
      rw [hi2, hj2] at this
      exact ⟨(this _ (by simp) _ (by simp)).symm, (this _ (by simp) _ (by simp)).symm, (this _ (by simp) _ (by simp)).symm, (this _ (by simp) _ (by simp)).symm⟩
def U7 (U : ToldS) : ToldS := { U with letters := U.letters ++ [7], got := U.got ++ [7] }
section
variable {P : Program} {w : World} {K : PySem.W.Frag} {mg : Str → Option Value} {base : Heap}
def sp_law_asked (K : PySem.W.Frag) : Sp := fun vs H Q _ => ∃ (k a u : Addr) (d : Int) (rs : List RuleL) (xs : List V) (ds : List Deed), vs = [.ref k, .ref a, .ref u] ∧ BookAt K H k d rs ∧ GoodB rs ∧ SqL K H a xs ∧ DeedsAt K H xs ds ∧ Playable ds ∧ ds.length ≤ 50000 ∧
  DueAt H u (runF rs d ds).2.2 ∧ (∀ U ∈ (runF rs d ds).2.2, U.letters.length + U.got.length ≤ 900000) ∧ ∀ H', Same H H' → Q (.bl true) H'
set_option maxHeartbeats 2000000 in
theorem ok_law_asked (T : Txt K mg) {fd : FuncData} (F : FunD K d_law_asked.name d_law_asked.qual d_law_asked.params d_law_asked.body d_law_asked.scope (d_law_asked.dvs K) (d_law_asked.kws K) (He.fAd K d_law_asked.at_) fd) : FnOk P w K mg base C8.CX0 9 (He.fAd K d_law_asked.at_) fd ["work", "acts", "due"] (sp_law_asked K) := by
  have k_play := k_play (P := P) (w := w) (base := base) T
  have c_law_is_report := c_law_is_report (P := P) (w := w) (base := base) T
  have c_play := c_play (P := P) (w := w) (base := base) T
  refine F.ok sc_law_asked (fun vs H Q E h => ?_) (fun cdv A outer s H vs Q E hr h => ?_)
  · obtain ⟨k, a, u, d, rs, xs, ds, rfl, _⟩ := h
    rfl
  · have hu := L2.hu_of hr
    obtain ⟨k, a, u, d, rs, xs, ds, rfl, hk, hg, hS, hD, hP, hl, hu1, hsm, q⟩ := h
    refine ⟨_, (PSs.nox ((pss_cons (ps_set (i := 3) sc_law_asked.nd rfl (by first | exact Or.inl rfl | exact Or.inr rfl) (pe_callTy (My.list_ofK (K := K) rfl) (by rfl) T.list (by decide +kernel) (pa_cons (pv 1) pa_nil)))
  (pss_cons (ps_set (i := 4) sc_law_asked.nd rfl (by first | exact Or.inl rfl | exact Or.inr rfl) (C8.pe_c c_play hr (by decide) rfl (pa_cons (pv 0) (pa_cons (pv 3) pa_nil))))
  (pss_cons (ps_if (PW.pt (pw_or (pt_not (pt_val (pe_callB (My.isiK (K := K) rfl) (by rfl) T.isinstance (by decide +kernel) (pa_cons (pv 4) (pa_cons (pe_bltn (v := .ty "list") (u := .type "list") rfl T.list (by decide +kernel) rfl) pa_nil))))) (pw_or (pt_cmpR (My.neDK (K := K) rfl hr.units) (pe_lc (own := [("one", 5)]) (g := (gName 5)) (by rfl) sc_law_asked.nd (My.pi_listK (K := K) rfl (pv 4)) (blkOk_by (N := N_law_asked) (sc := defScope s_law_asked) (by decide +kernel)) (fun _ _ _ _ _ => (pg_name (i := 5) sc_law_asked.nd rfl (by first | exact Or.inl rfl | exact Or.inr rfl))) (fun _ _ _ _ _ => (pts_one (pt_not (pt_val (C8.pe_c c_law_is_report hr (by decide) rfl (pa_cons (pv 5) pa_nil)))))) (fun _ _ _ _ _ => (pv 5))) (pe_lst pa_nil) (nomark _)) (pw_or1 (pt_cmpR (My.neDK (K := K) rfl hr.units) (pv 4) (pv 2) (nomark _))))))
  (pss_one (ps_ret pe_bl))
  pss_nil)
  (pss_cons (ps_for PassesOwn.never rfl (My.pi_listK (K := K) rfl (pv 4)) (pg_name (i := 5) sc_law_asked.nd rfl (by first | exact Or.inl rfl | exact Or.inr rfl))
  (pss_cons (ps_expr (My.pe_bmK (K := K) rfl PySem.F.plainAttrs_list PySem.F.slot_list_append PySem.F.type_list_append mt_append (pe_ix (My.ix_tupK (K := K) rfl) (pv 5) pe_int (fun _ _ => rfl)) (pa_cons pe_int pa_nil)))
  (pss_one (ps_expr (My.pe_bmK (K := K) rfl PySem.F.plainAttrs_list PySem.F.slot_list_append PySem.F.type_list_append mt_append (pe_ix (My.ix_tupK (K := K) rfl) (pv 5) pe_int (fun _ _ => rfl)) (pa_cons pe_int pa_nil))))))
  (pss_cons (ps_if (pt_cmpR (My.neDK (K := K) rfl hr.units) (pv 4) (pe_lc (own := [("one", 5)]) (g := (gName 5)) (tt := tYes) (by rfl) sc_law_asked.nd (My.pi_listK (K := K) rfl (pv 2)) (blkOk_by (N := N_law_asked) (sc := defScope s_law_asked) (by decide +kernel)) (fun _ _ _ _ _ => (pg_name (i := 5) sc_law_asked.nd rfl (by first | exact Or.inl rfl | exact Or.inr rfl))) (fun _ _ _ _ _ => pts_nil) (fun _ _ _ _ _ => (pe_tup (pa_cons (pe_op op_cat (pe_ix (My.ix_tupK (K := K) rfl) (pv 5) pe_int (fun _ _ => rfl)) (pe_lst (pa_cons pe_int pa_nil))) (pa_cons (pe_ix (My.ix_tupK (K := K) rfl) (pv 5) pe_int (fun _ _ => rfl)) (pa_cons (pe_op op_cat (pe_ix (My.ix_tupK (K := K) rfl) (pv 5) pe_int (fun _ _ => rfl)) (pe_lst (pa_cons pe_int pa_nil))) pa_nil)))))) (nomark _))
  (pss_one (ps_ret pe_bl))
  pss_nil)
  (pss_cons (ps_expr (My.pe_bmK (K := K) rfl PySem.F.plainAttrs_list PySem.F.slot_list_append PySem.F.type_list_append mt_append (pv 4) (pa_cons pe_int pa_nil)))
  (pss_one (ps_ret (pe_and (pe_cmpR (My.eqDK (K := K) rfl hr.units) (My.pe_kw2 k_play hr (by decide) rfl (pk_cons (pv 3) (pk_cons (pv 0) pk_nil))) (pv 2) (nomark _)) (pe_one (pe_cmpR (My.eqDK (K := K) rfl hr.units) (pv 3) (pv 1) (nomark _)))))))))))))), ?_⟩
    refine ⟨_, rfl, a, xs, rfl, .inl hS, fun c hc => ?_⟩
    have sc := same_new (o := .lst xs) hc
    refine ⟨_, rfl, _, rfl, k, c, d, rs, xs, ds, rfl, hk.same sc, hg, SqL.of upd_same, hD.same sc, hP, hl, fun H1 p s1 hR => ?_⟩
    have hrl := runF_len rs d ds
    generalize hUs : (runF rs d ds).2.2 = Us at hR hu1 hsm hrl
    obtain ⟨ts, hp, htd, hnd, hfr, hp0⟩ := hR
    have sH := sc.trans s1
    have hlt : ts.length ≤ 50000 := by rw [htd.length]; omega
    have hc1 : SqL K H1 c xs := SqL.of (s1 _ _ upd_same)
    refine ⟨_, rfl, _, _, _, _, _, rfl, .ty "list", tyx_lst (SqL.of hp), L2.kit_ty (by decide +kernel), true, rfl, ?_⟩
    refine ⟨_, rfl, p, rfl, ⟨_, SqL.of hp⟩, fun D hD1 => ?_⟩
    refine lc_list (K := K) (a := p) (xs := ts.map fun z => V.ref z.1) (fun i H' => Same H1 H' ∧ H' D = some (.lst [])) ⟨same_new hD1, upd_same⟩ (fun i H' _ z => SqL.of (z.1 _ _ hp)) ?_ ?_
    · rintro i y H2 hi ⟨s2, hD2⟩
      obtain ⟨z, hz, rfl⟩ := map_get hi
      obtain ⟨U, hU, ht⟩ := paired_at htd hz
      refine ⟨rfl, ?_⟩
      refine ⟨_, rfl, z, U, rfl, ht.same s2, Nat.le_trans (hsm U (List.mem_of_getElem? hU)) (by decide), fun H3 s3 => ?_⟩
      exact ⟨true, rfl, s2.trans s3, s3 _ _ hD2⟩
    · rintro H2 ⟨s2, hD2⟩
      refine ⟨Nat.zero_le _, fun e he => ?_⟩
      refine ⟨.list [], .list [], nilD (by rw [upd_ne (ne_of_none hD2 he)]; exact hD2), nilD upd_same, sm_nil.shaped (by decide), sm_nil.shaped (by decide), ?_⟩
      have s3 : Same H1 (upd H2 e (.lst [])) := s2.trans (same_new he)
      have hp3 := s3 _ _ hp
      have htd3 := paired_map (fun z U _ hz => ItAt.same s3 hz) htd
      have hdue3 : DueAt (upd H2 e (.lst [])) p Us := ⟨ts, hp3, htd3⟩
      generalize upd H2 e (.lst []) = H3 at s3 hp3 htd3 hdue3
      refine ⟨_, rfl, _, rfl, _, rfl, .list (Us.map repD), .list (Us.map repD), hdue3.dp, (hu1.same (sH.trans s3)).dp, (sm_reps Us).shaped (by decide), (sm_reps Us).shaped (by decide), ?_⟩
      rw [(sm_reps Us).refl]
      refine ⟨_, rfl, _, rfl, p, rfl, ⟨_, SqL.of hp3⟩, ?_⟩
      have nd1 := (lets_nd hnd).1
      have nd2 := (lets_nd hnd).2
      refine for_list (K := K) (a := p) (xs := ts.map fun z => V.ref z.1) (fun i σ H' => ∃ o, σ = [some (.ref k), some (.ref a), some (.ref u), some (.ref c), some (.ref p), o] ∧ Same (upd H c (.lst xs)) H' ∧ H' p = some (.lst (ts.map fun z => V.ref z.1)) ∧ ∀ (j : Nat) (z : Addr × Addr × Addr) (U : ToldS), ts[j]? = some z → Us[j]? = some U → ItAt H' z (if j < i then U7 U else U)) ⟨_, rfl, s1.trans s3, hp3, fun j z U hz hU => ?_⟩ (fun i σ H' _ z => ?_) ?_ ?_
      · obtain ⟨U2, hU2, ht⟩ := paired_at htd3 hz
        rw [hU] at hU2
        cases hU2
        rw [if_neg (Nat.not_lt_zero _)]
        exact ht
      · obtain ⟨_, _, _, hz, _⟩ := z
        exact SqL.of hz
      · rintro i y σ H4 hi ⟨o, rfl, s4, hp4, hall⟩
        obtain ⟨z, hz, rfl⟩ := map_get hi
        obtain ⟨U, hU, _⟩ := paired_at htd hz
        have ht := hall i z U hz hU
        rw [if_neg (Nat.lt_irrefl _)] at ht
        obtain ⟨h1, h2, h3⟩ := ht
        have n12 := nd1 z (List.mem_of_getElem? hz)
        have hU9 := hsm U (List.mem_of_getElem? hU)
        refine ⟨_, rfl, _, _, 0, _, rfl, rfl, SqT.of h1, rfl, .inl ⟨rfl, _, SqL.of h2⟩, z.2.1, _, _, rfl, rfl, h2, ?_, ?_⟩
        · rw [List.length_map]; exact lt_line (by omega)
        have hz1 : ∀ {a : Addr} {l : List V} {o : HO}, H4 a = some (.lst l) → upd H4 a o z.1 = some (.tup [.ref z.2.1, .bl U.opened, .ref z.2.2]) := fun e => by rw [upd_ne (ne_of h1 e (fun e => by cases e))]; exact h1
        refine ⟨_, rfl, _, _, 2, _, rfl, rfl, SqT.of (hz1 h2), rfl, .inl ⟨rfl, _, SqL.of (by rw [upd_ne n12.symm]; exact h3)⟩, z.2.2, _, _, rfl, rfl, by rw [upd_ne n12.symm]; exact h3, ?_, ?_⟩
        · rw [List.length_map]; exact lt_line (by omega)
        have np : ∀ x ∈ lets ts, p ≠ x := fun x hx e => (hfr x hx).2 e.symm
        have zl := lets_mem (List.mem_of_getElem? hz)
        refine ⟨_, rfl, (same_upd (same_upd s4 (hfr _ zl.1).1) (hfr _ zl.2).1), by rw [upd_ne (np _ zl.2), upd_ne (np _ zl.1)]; exact hp4, fun j w V hw hV => ?_⟩
        by_cases hj : j = i
        · subst hj
          rw [hz] at hw
          cases hw
          rw [hU] at hV
          cases hV
          rw [if_pos (Nat.lt_succ_self _)]
          refine ⟨?_, ?_, ?_⟩
          · rw [upd_ne (ne_of h1 h3 (fun e => by cases e))]; exact hz1 h2
          · rw [upd_ne n12, upd_same]
            show _ = some (HO.lst ((U.letters ++ [7]).map V.int))
            rw [List.map_append]
            rfl
          · rw [upd_same]
            show _ = some (HO.lst ((U.got ++ [7]).map V.int))
            rw [List.map_append]
            rfl
        · have hw2 := hall j w V hw hV
          have ej : (if j < i + 1 then U7 V else V) = (if j < i then U7 V else V) := by
            by_cases h : j < i
            · rw [if_pos h, if_pos (by omega)]
            · rw [if_neg h, if_neg (by omega)]
          rw [ej]
          obtain ⟨w1, w2, w3⟩ := hw2
          obtain ⟨n1, n2, n3, n4⟩ := nd2 j i w z hw hz hj
          refine ⟨?_, ?_, ?_⟩
          · rw [upd_ne (ne_of w1 h3 (fun e => by cases e)), upd_ne (ne_of w1 h2 (fun e => by cases e))]; exact w1
          · rw [upd_ne n2, upd_ne n1]; exact w2
          · rw [upd_ne n4, upd_ne n3]; exact w3
      · rintro σ H4 ⟨o, rfl, s4, hp4, hall⟩
        rw [List.length_map] at hall
        have s04 := sc.trans s4
        have hd4 : DueAt H4 p (Us.map U7) := ⟨ts, hp4, paired_ix (by rw [List.length_map]; exact htd.length) fun i z V hz hV => by
          obtain ⟨U, hU, rfl⟩ := map_get hV
          have := hall i z U hz hU
          rw [if_pos (List.getElem?_eq_some_iff.mp hz).1] at this
          exact this⟩
        obtain ⟨vs, hv4, hvd4⟩ := hu1.same s04
        refine ⟨_, rfl, _, rfl, u, rfl, ⟨_, SqL.of hv4⟩, fun D4 hD4 => ?_⟩
        refine lc_list (K := K) (a := u) (xs := vs.map fun z => V.ref z.1) (fun i H' => Same H4 H' ∧ ∃ us : List (Addr × Addr × Addr), us.length = i ∧ H' D4 = some (.lst (us.map fun z => V.ref z.1)) ∧ Paired (ItAt H') us ((Us.take i).map U7) ∧ ∀ x ∈ us, x.2.1 ≠ D4 ∧ x.2.2 ≠ D4) ⟨same_new hD4, [], rfl, upd_same, .nil, fun x hx => by cases hx⟩ (fun i H' _ z => SqL.of (z.1 _ _ hv4)) ?_ ?_
        · rintro i y H5 hi ⟨s5, us, hul, hD5, hup, huD⟩
          obtain ⟨z, hz, rfl⟩ := map_get hi
          obtain ⟨U, hU, ht⟩ := paired_at hvd4 hz
          obtain ⟨h1, h2, h3⟩ := ht.same s5
          have hU9 := hsm U (List.mem_of_getElem? hU)
          have hi9 : i < Us.length := (List.getElem?_eq_some_iff.mp hU).1
          refine ⟨rfl, _, rfl, _, _, 0, _, rfl, rfl, SqT.of h1, rfl, by show 1 ≤ sizeLine; decide, fun q1 hq1 => ?_⟩
          have sa : Same H5 (upd H5 q1 (.lst [.int 7])) := same_new hq1
          refine ⟨z.2.1, q1, _, _, rfl, rfl, sa _ _ h2, upd_same, ?_, fun c1 hc1 => ?_⟩
          · rw [List.length_map]; exact Nat.le_of_lt (lt_line (by show U.letters.length + 1 ≤ 1000000; omega))
          have sb := sa.trans (same_new (o := .lst (U.letters.map V.int ++ [.int 7])) hc1)
          refine ⟨_, rfl, _, _, 1, _, rfl, rfl, SqT.of (sb _ _ h1), rfl, _, rfl, _, _, 2, _, rfl, rfl, SqT.of (sb _ _ h1), rfl, by show 1 ≤ sizeLine; decide, fun q2 hq2 => ?_⟩
          have sd := sb.trans (same_new (o := .lst [.int 7]) hq2)
          refine ⟨z.2.2, q2, _, _, rfl, rfl, sd _ _ h3, upd_same, ?_, fun c2 hc2 => ?_⟩
          · rw [List.length_map]; exact Nat.le_of_lt (lt_line (by show U.got.length + 1 ≤ 1000000; omega))
          have se := sd.trans (same_new (o := .lst (U.got.map V.int ++ [.int 7])) hc2)
          refine ⟨by show 3 ≤ sizeLine; decide, fun q hq => ?_⟩
          have sf := se.trans (same_new (o := .tup [.ref c1, .bl U.opened, .ref c2]) hq)
          have nc1 : c1 ≠ D4 := (ne_of_none (sa _ _ hD5) hc1).symm
          have nc2 : c2 ≠ D4 := (ne_of_none (sd _ _ hD5) hc2).symm
          have nq : q ≠ D4 := (ne_of_none (se _ _ hD5) hq).symm
          have c1q : c1 ≠ q2 := ne_of_none upd_same hq2
          have c1c2 : c1 ≠ c2 := ne_of_none (by rw [upd_ne c1q]; exact upd_same) hc2
          have c1q' : c1 ≠ q := ne_of_none (by rw [upd_ne c1c2, upd_ne c1q]; exact upd_same) hq
          have c2q' : c2 ≠ q := ne_of_none upd_same hq
          refine ⟨_, sf _ _ hD5, by rw [List.length_map, hul]; exact lt_line (by omega), same_upd (s5.trans sf) hD4, us ++ [(q, c1, c2)], by rw [List.length_append, hul]; rfl, by rw [upd_same, List.map_append]; rfl, ?_, ?_⟩
          · rw [take_more hU, List.map_append]
            refine Paired.snoc (paired_map (fun x V hx hv => ?_) hup) ?_
            · obtain ⟨a1, a2, a3⟩ := hv
              exact ⟨by rw [upd_ne (ne_of a1 hD5 (fun e => by cases e))]; exact sf _ _ a1, by rw [upd_ne (huD x hx).1]; exact sf _ _ a2, by rw [upd_ne (huD x hx).2]; exact sf _ _ a3⟩
            · refine ⟨by rw [upd_ne nq, upd_same]; rfl, ?_, ?_⟩
              · rw [upd_ne nc1, upd_ne c1q', upd_ne c1c2, upd_ne c1q, upd_same]
                show _ = some (HO.lst ((U.letters ++ [7]).map V.int))
                rw [List.map_append]
                rfl
              · rw [upd_ne nc2, upd_ne c2q', upd_same]
                show _ = some (HO.lst ((U.got ++ [7]).map V.int))
                rw [List.map_append]
                rfl
          · intro x hx
            rcases List.mem_append.mp hx with hx | hx
            · exact huD x hx
            · rw [List.mem_singleton.mp hx]
              exact ⟨nc1, nc2⟩
        · rintro H5 ⟨s5, us, hul, hD5, hup, huD⟩
          rw [List.length_map, hvd4.length, List.take_length] at hup
          have hd5 : DueAt H5 D4 (Us.map U7) := ⟨us, hD5, hup⟩
          refine ⟨.list ((Us.map U7).map repD), .list ((Us.map U7).map repD), (hd4.same s5).dp, hd5.dp, (sm_reps _).shaped (by decide), (sm_reps _).shaped (by decide), ?_⟩
          rw [(sm_reps _).refl]
          have hp5 := s5 _ _ hp4
          have s15 := s4.trans s5
          refine ⟨_, rfl, _, rfl, .inl ⟨rfl, _, SqL.of hp5⟩, p, _, _, rfl, rfl, hp5, by rw [List.length_map]; exact lt_line (by omega), ?_⟩
          have s6 := same_upd (o := .lst ((ts.map fun z => V.ref z.1) ++ [.int 7])) s15 hp0
          generalize upd H5 p (.lst ((ts.map fun z => V.ref z.1) ++ [.int 7])) = H6 at s6
          have s06 := sc.trans s6
          have hc6 : SqL K H6 c xs := SqL.of (s6 _ _ upd_same)
          refine ⟨_, rfl, _, rfl, k, c, d, rs, xs, ds, rfl, hk.same s06, hg, hc6, hD.same s06, hP, hl, fun H7 p7 s7 hR7 => ?_⟩
          rw [hUs] at hR7
          have s07 := s06.trans s7
          refine ⟨_, rfl, .list (Us.map repD), .list (Us.map repD), hR7.due.dp, (hu1.same s07).dp, (sm_reps Us).shaped (by decide), (sm_reps Us).shaped (by decide), ?_⟩
          rw [(sm_reps Us).refl]
          refine ⟨_, rfl, _, rfl, _, rfl, .list (ds.map deedD), .list (ds.map deedD), .lst (s7.seq hc6) (dp_deeds (hD.same s07)), .lst (s07.seq hS) (dp_deeds (hD.same s07)), (sm_deeds ds).shaped (by decide), (sm_deeds ds).shaped (by decide), ?_⟩
          rw [(sm_deeds ds).refl]
          exact q _ s07
theorem c_law_asked (T : Txt K mg) : C8.Cal P w K mg base 9 "_law_asked" (sp_law_asked K) [] := by
  obtain ⟨fd, F⟩ := T.f_law_asked
  exact ⟨_, fd, _, _, ok_law_asked T F, T.g_law_asked, F.kp, F.bindsN (fun _ _ _ _ _ _ us hl => match us, hl with | [_, _, _], _ => rfl), .nil⟩
end
end K25

namespace K25
open PySem PySem.Spec PyProof.Rows L2 My
/-! ### how it stands, what is wrong -/
/-- what boxes should tell, however it is made -/
def StdDue (H : Hp) (u : Addr) (S : BoxS) : Prop := ∃ (l1 l2 : Addr) (ys : List Int), H u = some (.tup [.bl S.ajar, .ref l1, .str S.tf, .ref l2, oV S.age]) ∧ H l1 = some (.lst (S.inside.map V.int)) ∧ H l2 = some (.lst (ys.map V.int)) ∧ ys.Perm S.valid ∧ ys.Pairwise (· ≤ ·)
def oD : Option Int → PyData
  | some i => .int i
  | none => .none
def stdD (S : BoxS) (ys : List Int) : PyData := .tuple [.bool S.ajar, .list (S.inside.map PyData.int), .str S.tf, .list (ys.map PyData.int), oD S.age]
theorem sm_oD (o : Option Int) : Sm 0 (oD o) := by
  cases o with
  | none => exact sm_none
  | some i => exact sm_int i
theorem sm_std {S : BoxS} {ys : List Int} (h : PyData.canLay0 (.str S.tf) = true) : Sm 2 (stdD S ys) := sm_tuple fun d hd => by
  simp only [List.mem_cons, List.not_mem_nil, or_false] at hd
  rcases hd with rfl | rfl | rfl | rfl | rfl
  · exact (sm_bool _).mono (by decide)
  · exact sm_ints _
  · exact (sok h).mono (by decide)
  · exact sm_ints _
  · exact (sm_oD _).mono (by decide)
theorem dp_oV {K : PySem.W.Frag} {H : Hp} (o : Option Int) : Dp K H (oV o) (oD o) := by
  cases o with
  | none => exact .non
  | some i => exact .int i
theorem dp_std {K : PySem.W.Frag} {H : Hp} {u l1 l2 : Addr} {S : BoxS} {ys : List Int} (h : H u = some (.tup [.bl S.ajar, .ref l1, .str S.tf, .ref l2, oV S.age])) (h1 : H l1 = some (.lst (S.inside.map V.int))) (h2 : H l2 = some (.lst (ys.map V.int))) : Dp K H (.ref u) (stdD S ys) :=
  .tup (SqT.of h) (.cons (.bl _) (.cons (.lst (SqL.of h1) (dp_flatInts K H _)) (.cons (.str _) (.cons (.lst (SqL.of h2) (dp_flatInts K H _)) (.cons (dp_oV _) .nil)))))
theorem ty_oV {K : PySem.W.Frag} {H : Hp} (o : Option Int) : ∃ t, TyX K H (oV o) t ∧ PySem.W.kitOne K t (.type "bool") = some false := by
  cases o with
  | none => exact ⟨_, .base .non, L2.kit_ty (by decide +kernel)⟩
  | some i => exact ⟨_, .base (.int i), L2.kit_ty (by decide +kernel)⟩
section
variable {P : Program} {w : World} {K : PySem.W.Frag} {mg : Str → Option Value} {base : Heap}
def sp_law_stands (K : PySem.W.Frag) : Sp := fun vs H Q _ => ∃ (k a u : Addr) (d : Int) (rs : List RuleL) (xs : List V) (ds : List Deed), vs = [.ref k, .ref a, .ref u] ∧ BookAt K H k d rs ∧ GoodB rs ∧ SqL K H a xs ∧ DeedsAt K H xs ds ∧ Playable ds ∧ ds.length ≤ 50000 ∧ (runF rs d ds).2.1.valid.length ≤ 50000 ∧
  StdDue H u (runF rs d ds).2.1 ∧ PyData.canLay0 (.str (runF rs d ds).2.1.tf) = true ∧ (runF rs d ds).2.1.inside.length ≤ 900000 ∧ ∀ H', Same H H' → Q (.bl true) H'
set_option maxHeartbeats 2000000 in
theorem ok_law_stands (T : Txt K mg) {fd : FuncData} (F : FunD K d_law_stands.name d_law_stands.qual d_law_stands.params d_law_stands.body d_law_stands.scope (d_law_stands.dvs K) (d_law_stands.kws K) (He.fAd K d_law_stands.at_) fd) : FnOk P w K mg base C8.CX0 9 (He.fAd K d_law_stands.at_) fd ["work", "acts", "due"] (sp_law_stands K) := by
  have k_boxes := k_boxes (P := P) (w := w) (base := base) T
  have c_law_is_whole := c_law_is_whole (P := P) (w := w) (base := base) T
  have c_boxes := c_boxes (P := P) (w := w) (base := base) T
  refine F.ok sc_law_stands (fun vs H Q E h => ?_) (fun cdv A outer s H vs Q E hr h => ?_)
  · obtain ⟨k, a, u, d, rs, xs, ds, rfl, _⟩ := h
    rfl
  · have hu := L2.hu_of hr
    obtain ⟨k, a, u, d, rs, xs, ds, rfl, hk, hg, hS, hD, hP, hl, h64, hu1, htf, hin, q⟩ := h
    refine ⟨_, (PSs.nox ((pss_cons (ps_set (i := 3) sc_law_stands.nd rfl (by first | exact Or.inl rfl | exact Or.inr rfl) (C8.pe_c c_boxes hr (by decide) rfl (pa_cons (pv 0) (pa_cons (pe_callTy (My.list_ofK (K := K) rfl) (by rfl) T.list (by decide +kernel) (pa_cons (pv 1) pa_nil)) pa_nil))))
  (pss_cons (ps_if (PW.pt (pw_or (pt_not (pt_val (pe_callB (My.isiK (K := K) rfl) (by rfl) T.isinstance (by decide +kernel) (pa_cons (pv 3) (pa_cons (pe_bltn (v := .ty "tuple") (u := .type "tuple") rfl T.tuple (by decide +kernel) rfl) pa_nil))))) (pw_or (pt_cmpR (My.neDK (K := K) rfl hr.units) (pv 3) (pv 2) (nomark _)) (pw_or (pt_not (pt_val (pe_callB (My.isiK (K := K) rfl) (by rfl) T.isinstance (by decide +kernel) (pa_cons (pe_ix (My.ix_tupK (K := K) rfl) (pv 3) pe_int (fun _ _ => rfl)) (pa_cons (pe_bltn (v := .ty "bool") (u := .type "bool") rfl T.bool (by decide +kernel) rfl) pa_nil))))) (pw_or1 (pt_val (pe_callB (My.isiK (K := K) rfl) (by rfl) T.isinstance (by decide +kernel) (pa_cons (pe_ix (My.ix_tupK (K := K) rfl) (pv 3) pe_int (fun _ _ => rfl)) (pa_cons (pe_bltn (v := .ty "bool") (u := .type "bool") rfl T.bool (by decide +kernel) rfl) pa_nil)))))))))
  (pss_one (ps_ret pe_bl))
  pss_nil)
  (pss_cons (ps_if (PW.pt (pw_or (pt_not (pt_val (pe_callB (My.isiK (K := K) rfl) (by rfl) T.isinstance (by decide +kernel) (pa_cons (pe_ix (My.ix_tupK (K := K) rfl) (pv 3) pe_int (fun _ _ => rfl)) (pa_cons (pe_bltn (v := .ty "list") (u := .type "list") rfl T.list (by decide +kernel) rfl) pa_nil))))) (pw_or1 (pt_not (pt_val (pe_callB (My.isiK (K := K) rfl) (by rfl) T.isinstance (by decide +kernel) (pa_cons (pe_ix (My.ix_tupK (K := K) rfl) (pv 3) pe_int (fun _ _ => rfl)) (pa_cons (pe_bltn (v := .ty "list") (u := .type "list") rfl T.list (by decide +kernel) rfl) pa_nil))))))))
  (pss_one (ps_ret pe_bl))
  pss_nil)
  (pss_cons (ps_if (pt_cmpR (My.neDK (K := K) rfl hr.units) (pe_lc (own := [("one", 4)]) (g := (gName 4)) (by rfl) sc_law_stands.nd (My.pi_listK (K := K) rfl (pe_op op_cat (pe_ix (My.ix_tupK (K := K) rfl) (pv 3) pe_int (fun _ _ => rfl)) (pe_ix (My.ix_tupK (K := K) rfl) (pv 3) pe_int (fun _ _ => rfl)))) (blkOk_by (N := N_law_stands) (sc := defScope s_law_stands) (by decide +kernel)) (fun _ _ _ _ _ => (pg_name (i := 4) sc_law_stands.nd rfl (by first | exact Or.inl rfl | exact Or.inr rfl))) (fun _ _ _ _ _ => (pts_one (pt_not (pt_val (C8.pe_c c_law_is_whole hr (by decide) rfl (pa_cons (pv 4) pa_nil)))))) (fun _ _ _ _ _ => (pv 4))) (pe_lst pa_nil) (nomark _))
  (pss_one (ps_ret pe_bl))
  pss_nil)
  (pss_cons (ps_expr (My.pe_bmK (K := K) rfl PySem.F.plainAttrs_list PySem.F.slot_list_append PySem.F.type_list_append mt_append (pe_ix (My.ix_tupK (K := K) rfl) (pv 3) pe_int (fun _ _ => rfl)) (pa_cons pe_int pa_nil)))
  (pss_cons (ps_if (pt_cmpR (My.neDK (K := K) rfl hr.units) (pe_ix (My.ix_tupK (K := K) rfl) (pv 3) pe_int (fun _ _ => rfl)) (pe_ix (My.ix_tupK (K := K) rfl) (pv 2) pe_int (fun _ _ => rfl)) (nomark _))
  (pss_one (ps_ret pe_bl))
  pss_nil)
  (pss_cons (ps_expr (My.pe_bmK (K := K) rfl PySem.F.plainAttrs_list PySem.F.slot_list_append PySem.F.type_list_append mt_append (pe_ix (My.ix_tupK (K := K) rfl) (pv 3) pe_int (fun _ _ => rfl)) (pa_cons pe_int pa_nil)))
  (pss_one (ps_ret (pe_cmpR (My.eqDK (K := K) rfl hr.units) (My.pe_kw2 k_boxes hr (by decide) rfl (pk_cons (pe_callTy (My.list_ofK (K := K) rfl) (by rfl) T.list (by decide +kernel) (pa_cons (pv 1) pa_nil)) (pk_cons (pv 0) pk_nil))) (pv 2) (nomark _))))))))))))), ?_⟩
    refine ⟨_, rfl, _, rfl, a, xs, rfl, .inl hS, fun c hc => ?_⟩
    have sc := same_new (o := .lst xs) hc
    refine ⟨k, c, d, rs, xs, ds, rfl, hk.same sc, hg, SqL.of upd_same, hD.same sc, hP, hl, h64, fun H1 p ys s1 hR => ?_⟩
    generalize hUs : (runF rs d ds).2.1 = S at hR hu1 h64 htf hin
    obtain ⟨l1, l2, hp, hl1, hl2, n12, hf1, hf2, hp0, hperm, hsort⟩ := hR
    have sH := sc.trans s1
    obtain ⟨v1, v2, zs, hu, hv1, hv2, hperm2, hsort2⟩ := hu1
    have ezs : zs = ys := PySem.W.ksm_same (hperm2.trans hperm.symm) hsort2 hsort
    subst ezs
    have hys : zs.length ≤ 50000 := by rw [hperm.length_eq]; exact h64
    have hT := SqT.of (K := K) hp
    refine ⟨_, rfl, _, _, _, _, _, rfl, .ty "tuple", tyx_tup hT, L2.kit_ty (by decide +kernel), true, rfl, ?_⟩
    refine ⟨_, rfl, _, rfl, stdD S zs, stdD S zs, dp_std hp hl1 hl2, dp_std (sH _ _ hu) (sH _ _ hv1) (sH _ _ hv2), (sm_std htf).shaped (by decide), (sm_std htf).shaped (by decide), ?_⟩
    rw [(sm_std htf).refl]
    refine ⟨_, rfl, _, rfl, _, _, 0, _, rfl, rfl, hT, rfl, _, _, _, _, _, rfl, .ty "bool", .base (.bl _), L2.kit_ty (by decide +kernel), true, rfl, ?_⟩
    obtain ⟨t4, ht4, e4⟩ := ty_oV (K := K) (H := H1) S.age
    refine ⟨_, rfl, _, _, 4, _, rfl, rfl, hT, rfl, _, _, _, _, _, rfl, .ty "bool", ht4, e4, false, rfl, ?_⟩
    refine ⟨_, rfl, _, _, 1, _, rfl, rfl, hT, rfl, _, _, _, _, _, rfl, .ty "list", tyx_lst (SqL.of hl1), L2.kit_ty (by decide +kernel), true, rfl, ?_⟩
    refine ⟨_, rfl, _, _, 3, _, rfl, rfl, hT, rfl, _, _, _, _, _, rfl, .ty "list", tyx_lst (SqL.of hl2), L2.kit_ty (by decide +kernel), true, rfl, ?_⟩
    refine ⟨_, rfl, _, _, 1, _, rfl, rfl, hT, rfl, _, rfl, _, _, 3, _, rfl, rfl, hT, rfl, l1, l2, _, _, rfl, rfl, hl1, hl2, ?_, fun e he => ?_⟩
    · rw [List.length_map, List.length_map]
      exact Nat.le_of_lt (lt_line (by omega))
    have ec : S.inside.map V.int ++ zs.map V.int = (S.inside ++ zs).map V.int := by rw [List.map_append]
    rw [ec]
    refine ⟨e, rfl, ⟨_, SqL.of upd_same⟩, fun D hDn => ?_⟩
    obtain ⟨nDe, hD0⟩ := up_none hDn
    refine lc_list (K := K) (a := e) (xs := (S.inside ++ zs).map V.int) (fun i H' => Same H1 H' ∧ H' e = some (.lst ((S.inside ++ zs).map V.int)) ∧ H' D = some (.lst [])) ⟨same_upd (same_new he) hD0, by rw [upd_ne nDe.symm]; exact upd_same, upd_same⟩ (fun i H' _ p => SqL.of p.2.1) ?_ ?_
    · rintro i y H2 hi ⟨s2, he2, hD2⟩
      obtain ⟨n, hn, rfl⟩ := map_get hi
      exact ⟨rfl, _, rfl, n, rfl, true, rfl, s2, he2, hD2⟩
    · rintro H2 ⟨s2, he2, hD2⟩
      refine ⟨Nat.zero_le _, fun g hg1 => ?_⟩
      refine ⟨.list [], .list [], nilD (by rw [upd_ne (ne_of_none hD2 hg1)]; exact hD2), nilD upd_same, sm_nil.shaped (by decide), sm_nil.shaped (by decide), ?_⟩
      have s3 : Same H1 (upd H2 g (.lst [])) := s2.trans (same_new hg1)
      generalize upd H2 g (.lst []) = H3 at s3
      have hp3 := s3 _ _ hp
      have h13 := s3 _ _ hl1
      have h23 := s3 _ _ hl2
      refine ⟨_, rfl, _, rfl, _, _, 1, _, rfl, rfl, SqT.of hp3, rfl, .inl ⟨rfl, _, SqL.of h13⟩, l1, _, _, rfl, rfl, h13, by rw [List.length_map]; exact lt_line (by omega), ?_⟩
      have s4 := same_upd (o := .lst (S.inside.map V.int ++ [.int 7])) (s1.trans s3) hf1
      have hp4 : upd H3 l1 (.lst (S.inside.map V.int ++ [.int 7])) p = some (.tup [.bl S.ajar, .ref l1, .str S.tf, .ref l2, oV S.age]) := by rw [upd_ne (ne_of hp3 h13 (fun e => by cases e))]; exact hp3
      have h24 : upd H3 l1 (.lst (S.inside.map V.int ++ [.int 7])) l2 = some (.lst (zs.map V.int)) := by rw [upd_ne n12.symm]; exact h23
      generalize upd H3 l1 (.lst (S.inside.map V.int ++ [.int 7])) = H4 at s4 hp4 h24
      have s04 := sc.trans s4
      refine ⟨_, rfl, _, _, 3, _, rfl, rfl, SqT.of hp4, rfl, _, rfl, _, _, 3, _, rfl, rfl, SqT.of (s04 _ _ hu), rfl, .list (zs.map PyData.int), .list (zs.map PyData.int), .lst (SqL.of h24) (dp_flatInts K _ _), .lst (SqL.of (s04 _ _ hv2)) (dp_flatInts K _ _), (sm_ints _).shaped (by decide), (sm_ints _).shaped (by decide), ?_⟩
      rw [(sm_ints _).refl]
      refine ⟨_, rfl, _, rfl, _, _, 3, _, rfl, rfl, SqT.of hp4, rfl, .inl ⟨rfl, _, SqL.of h24⟩, l2, _, _, rfl, rfl, h24, by rw [List.length_map]; exact lt_line (by omega), ?_⟩
      have s5 := same_upd (o := .lst (zs.map V.int ++ [.int 7])) s4 hf2
      generalize upd H4 l2 (.lst (zs.map V.int ++ [.int 7])) = H5 at s5
      have s05 := sc.trans s5
      refine ⟨_, rfl, a, xs, rfl, .inl (s05.seq hS), fun c2 hc2 => ?_⟩
      have s6 := s05.trans (same_new (o := .lst xs) hc2)
      refine ⟨_, rfl, k, c2, d, rs, xs, ds, rfl, hk.same s6, hg, SqL.of upd_same, hD.same s6, hP, hl, (by rw [hUs]; exact h64), fun H7 p7 ys7 s7 hR7 => ?_⟩
      rw [hUs] at hR7
      obtain ⟨m1, m2, hp7, hm1, hm2, _, _, _, _, hperm7, hsort7⟩ := hR7
      have e7 : zs = ys7 := PySem.W.ksm_same (hperm2.trans hperm7.symm) hsort2 hsort7
      subst e7
      have s07 := s6.trans s7
      refine ⟨_, rfl, stdD S zs, stdD S zs, dp_std hp7 hm1 hm2, dp_std (s07 _ _ hu) (s07 _ _ hv1) (s07 _ _ hv2), (sm_std htf).shaped (by decide), (sm_std htf).shaped (by decide), ?_⟩
      rw [(sm_std htf).refl]
      exact q _ s07
theorem c_law_stands (T : Txt K mg) : C8.Cal P w K mg base 9 "_law_stands" (sp_law_stands K) [] := by
  obtain ⟨fd, F⟩ := T.f_law_stands
  exact ⟨_, fd, _, _, ok_law_stands T F, T.g_law_stands, F.kp, F.bindsN (fun _ _ _ _ _ _ us hl => match us, hl with | [_, _, _], _ => rfl), .nil⟩
def FltDue (H : Hp) (u : Addr) (l : List (Str × Nat)) : Prop := ∃ us : List Addr, H u = some (.lst (us.map V.ref)) ∧ Paired (FItAt H) us l
def fltD (l : List (Str × Nat)) : PyData := .list (l.map fun x => .tuple [.str x.1, .int (x.2 : Nat)])
theorem sm_flt {l : List (Str × Nat)} (h : ∀ x ∈ l, PyData.canLay0 (.str x.1) = true) : Sm 2 (fltD l) := sm_list fun d hd => by
  obtain ⟨x, hx, rfl⟩ := List.mem_map.mp hd
  refine sm_tuple fun d hd => ?_
  simp only [List.mem_cons, List.not_mem_nil, or_false] at hd
  rcases hd with rfl | rfl
  · exact sok (h x hx)
  · exact sm_int _
theorem dp_flts {K : PySem.W.Frag} {H : Hp} : ∀ {us : List Addr} {l : List (Str × Nat)}, Paired (FItAt H) us l → DpAll K H (us.map V.ref) (l.map fun x => .tuple [.str x.1, .int (x.2 : Nat)])
  | _, _, .nil => .nil
  | _, _, .cons r t => .cons (.tup (SqT.of r) (.cons (.str _) (.cons (.int _) .nil))) (dp_flts t)
theorem FltDue.dp {K : PySem.W.Frag} {H : Hp} {u : Addr} {l : List (Str × Nat)} (h : FltDue H u l) : Dp K H (.ref u) (fltD l) := by
  obtain ⟨us, h1, h2⟩ := h
  exact .lst (SqL.of h1) (dp_flts h2)
theorem FltDue.same {H H' : Hp} {u : Addr} {l : List (Str × Nat)} (s : Same H H') (h : FltDue H u l) : FltDue H' u l := by
  obtain ⟨us, h1, h2⟩ := h
  exact ⟨us, s _ _ h1, paired_map (fun z U _ hz => s _ _ hz) h2⟩
theorem FltAt.due {H0 H : Hp} {p : Addr} {l : List (Str × Nat)} (h : FltAt H0 H p l) : FltDue H p l := by
  obtain ⟨us, h1, h2, _⟩ := h
  exact ⟨us, h1, h2⟩
def sp_law_wrong (K : PySem.W.Frag) : Sp := fun vs H Q _ => ∃ (k a u : Addr) (d : Int) (rs : List RuleL) (xs : List V) (ds : List Deed), vs = [.ref k, .ref a, .ref u] ∧ BookAt K H k d rs ∧ GoodB rs ∧ SqL K H a xs ∧ DeedsAt K H xs ds ∧ Playable ds ∧ ds.length ≤ 50000 ∧
  FltDue H u (fl 0 (runF rs d ds).2.2) ∧ (∀ x ∈ fl 0 (runF rs d ds).2.2, PyData.canLay0 (.str x.1) = true) ∧ ∀ H', Same H H' → Q (.bl true) H'
set_option maxHeartbeats 2000000 in
theorem ok_law_wrong (T : Txt K mg) {fd : FuncData} (F : FunD K d_law_wrong.name d_law_wrong.qual d_law_wrong.params d_law_wrong.body d_law_wrong.scope (d_law_wrong.dvs K) (d_law_wrong.kws K) (He.fAd K d_law_wrong.at_) fd) : FnOk P w K mg base C8.CX0 9 (He.fAd K d_law_wrong.at_) fd ["work", "acts", "due"] (sp_law_wrong K) := by
  have k_faults := k_faults (P := P) (w := w) (base := base) T
  have c_law_is_whole := c_law_is_whole (P := P) (w := w) (base := base) T
  have c_faults := c_faults (P := P) (w := w) (base := base) T
  refine F.ok sc_law_wrong (fun vs H Q E h => ?_) (fun cdv A outer s H vs Q E hr h => ?_)
  · obtain ⟨k, a, u, d, rs, xs, ds, rfl, _⟩ := h
    rfl
  · have hu := L2.hu_of hr
    obtain ⟨k, a, u, d, rs, xs, ds, rfl, hk, hg, hS, hD, hP, hl, hu1, htf, q⟩ := h
    refine ⟨_, (PSs.nox ((pss_cons (ps_set (i := 3) sc_law_wrong.nd rfl (by first | exact Or.inl rfl | exact Or.inr rfl) (pe_callTy (My.list_ofK (K := K) rfl) (by rfl) T.list (by decide +kernel) (pa_cons (pv 1) pa_nil)))
  (pss_cons (ps_set (i := 4) sc_law_wrong.nd rfl (by first | exact Or.inl rfl | exact Or.inr rfl) (C8.pe_c c_faults hr (by decide) rfl (pa_cons (pv 0) (pa_cons (pv 3) pa_nil))))
  (pss_cons (ps_if (PW.pt (pw_or (pt_not (pt_val (pe_callB (My.isiK (K := K) rfl) (by rfl) T.isinstance (by decide +kernel) (pa_cons (pv 4) (pa_cons (pe_bltn (v := .ty "list") (u := .type "list") rfl T.list (by decide +kernel) rfl) pa_nil))))) (pw_or1 (pt_cmpR (My.neDK (K := K) rfl hr.units) (pv 4) (pv 2) (nomark _)))))
  (pss_one (ps_ret pe_bl))
  pss_nil)
  (pss_cons (ps_if (pt_cmpR (My.neDK (K := K) rfl hr.units) (pe_lc (own := [("one", 5)]) (g := (gName 5)) (by rfl) sc_law_wrong.nd (My.pi_listK (K := K) rfl (pv 4)) (blkOk_by (N := N_law_wrong) (sc := defScope s_law_wrong) (by decide +kernel)) (fun _ _ _ _ _ => (pg_name (i := 5) sc_law_wrong.nd rfl (by first | exact Or.inl rfl | exact Or.inr rfl))) (fun _ _ _ _ _ => (pts_one (PW.pt (pw_or (pt_not (pt_val (pe_callB (My.isiK (K := K) rfl) (by rfl) T.isinstance (by decide +kernel) (pa_cons (pv 5) (pa_cons (pe_bltn (v := .ty "tuple") (u := .type "tuple") rfl T.tuple (by decide +kernel) rfl) pa_nil))))) (pw_or1 (pt_not (pt_val (C8.pe_c c_law_is_whole hr (by decide) rfl (pa_cons (pe_ix (My.ix_tupK (K := K) rfl) (pv 5) pe_int (fun _ _ => rfl)) pa_nil))))))))) (fun _ _ _ _ _ => (pv 5))) (pe_lst pa_nil) (nomark _))
  (pss_one (ps_ret pe_bl))
  pss_nil)
  (pss_cons (ps_expr (My.pe_bmK (K := K) rfl PySem.F.plainAttrs_list PySem.F.slot_list_append PySem.F.type_list_append mt_append (pv 4) (pa_cons pe_int pa_nil)))
  (pss_one (ps_ret (pe_and (pe_cmpR (My.eqDK (K := K) rfl hr.units) (My.pe_kw2 k_faults hr (by decide) rfl (pk_cons (pv 3) (pk_cons (pv 0) pk_nil))) (pv 2) (nomark _)) (pe_one (pe_cmpR (My.eqDK (K := K) rfl hr.units) (pv 3) (pv 1) (nomark _))))))))))))), ?_⟩
    refine ⟨_, rfl, a, xs, rfl, .inl hS, fun c hc => ?_⟩
    have sc := same_new (o := .lst xs) hc
    refine ⟨_, rfl, _, rfl, k, c, d, rs, xs, ds, rfl, hk.same sc, hg, SqL.of upd_same, hD.same sc, hP, hl, fun H1 p s1 hR => ?_⟩
    have hrl := fl_len 0 _ (run_w rs d ds)
    rw [runF_len] at hrl
    generalize hUs : fl 0 (runF rs d ds).2.2 = Us at hR hu1 htf hrl
    have hR1 := hR.due
    obtain ⟨ts, hp, htd, hp0⟩ := hR
    have sH := sc.trans s1
    refine ⟨_, rfl, _, _, _, _, _, rfl, .ty "list", tyx_lst (SqL.of hp), L2.kit_ty (by decide +kernel), true, rfl, ?_⟩
    refine ⟨_, rfl, _, rfl, fltD Us, fltD Us, hR1.dp, (hu1.same sH).dp, (sm_flt htf).shaped (by decide), (sm_flt htf).shaped (by decide), ?_⟩
    rw [(sm_flt htf).refl]
    refine ⟨_, rfl, _, rfl, p, rfl, ⟨_, SqL.of hp⟩, fun D hDn => ?_⟩
    refine lc_list (K := K) (a := p) (xs := ts.map V.ref) (fun i H' => Same H1 H' ∧ H' D = some (.lst [])) ⟨same_new hDn, upd_same⟩ (fun i H' _ z => SqL.of (z.1 _ _ hp)) ?_ ?_
    · rintro i y H2 hi ⟨s2, hD2⟩
      obtain ⟨z, hz, rfl⟩ := map_get hi
      obtain ⟨x, hx, ht⟩ := paired_at htd hz
      have ht2 := SqT.of (K := K) (s2 _ _ ht)
      refine ⟨rfl, _, rfl, _, _, _, _, _, rfl, .ty "tuple", tyx_tup ht2, L2.kit_ty (by decide +kernel), true, rfl, ?_⟩
      refine ⟨_, rfl, _, _, 1, _, rfl, rfl, ht2, rfl, (x.2 : Nat), rfl, true, rfl, s2, hD2⟩
    · rintro H2 ⟨s2, hD2⟩
      refine ⟨Nat.zero_le _, fun e he => ?_⟩
      refine ⟨.list [], .list [], nilD (by rw [upd_ne (ne_of_none hD2 he)]; exact hD2), nilD upd_same, sm_nil.shaped (by decide), sm_nil.shaped (by decide), ?_⟩
      have s3 : Same H1 (upd H2 e (.lst [])) := s2.trans (same_new he)
      generalize upd H2 e (.lst []) = H3 at s3
      have hp3 := s3 _ _ hp
      refine ⟨_, rfl, _, rfl, .inl ⟨rfl, _, SqL.of hp3⟩, p, _, _, rfl, rfl, hp3, by rw [List.length_map, htd.length]; exact lt_line (by omega), ?_⟩
      have s6 := same_upd (o := .lst (ts.map V.ref ++ [.int 7])) (s1.trans s3) hp0
      generalize upd H3 p (.lst (ts.map V.ref ++ [.int 7])) = H6 at s6
      have s06 := sc.trans s6
      have hc6 : SqL K H6 c xs := SqL.of (s6 _ _ upd_same)
      refine ⟨_, rfl, _, rfl, k, c, d, rs, xs, ds, rfl, hk.same s06, hg, hc6, hD.same s06, hP, hl, fun H7 p7 s7 hR7 => ?_⟩
      rw [hUs] at hR7
      have s07 := s06.trans s7
      refine ⟨_, rfl, fltD Us, fltD Us, hR7.due.dp, (hu1.same s07).dp, (sm_flt htf).shaped (by decide), (sm_flt htf).shaped (by decide), ?_⟩
      rw [(sm_flt htf).refl]
      refine ⟨_, rfl, _, rfl, _, rfl, .list (ds.map deedD), .list (ds.map deedD), .lst (s7.seq hc6) (dp_deeds (hD.same s07)), .lst (s07.seq hS) (dp_deeds (hD.same s07)), (sm_deeds ds).shaped (by decide), (sm_deeds ds).shaped (by decide), ?_⟩
      rw [(sm_deeds ds).refl]
      exact q _ s07
theorem c_law_wrong (T : Txt K mg) : C8.Cal P w K mg base 9 "_law_wrong" (sp_law_wrong K) [] := by
  obtain ⟨fd, F⟩ := T.f_law_wrong
  exact ⟨_, fd, _, _, ok_law_wrong T F, T.g_law_wrong, F.kp, F.bindsN (fun _ _ _ _ _ _ us hl => match us, hl with | [_, _, _], _ => rfl), .nil⟩
end
end K25

namespace K25
open PySem PySem.Spec PyProof.Rows L2 My StX
/-! ### the law's own box: a list [is open, inside, taken for, valid, last] -/
def LBx (as : List Addr) (H : Hp) (bx : Addr) (S : BoxS) : Prop := ∃ (l1 l3 : Addr) (ys : List Int), H bx = some (.lst [.bl S.ajar, .ref l1, .str S.tf, .ref l3, .int (S.last.getD 0)]) ∧ H l1 = some (.lst (S.inside.map V.int)) ∧ H l3 = some (.lst (ys.map V.int)) ∧ ys.Perm S.valid ∧ ys.Pairwise (· ≤ ·) ∧
  l1 ≠ bx ∧ l3 ≠ bx ∧ S.valid.Nodup ∧ (∀ p, S.last = some p → 1 ≤ p) ∧ l1 ∉ as ∧ l3 ∉ as
theorem LBx.same {as : List Addr} {H H' : Hp} {bx : Addr} {S : BoxS} (s : Same H H') (h : LBx as H bx S) : LBx as H' bx S := by
  obtain ⟨l1, l3, ys, h1, h2, h3, r⟩ := h
  exact ⟨l1, l3, ys, s _ _ h1, s _ _ h2, s _ _ h3, r⟩
theorem LBx.less {as : List Addr} {H : Hp} {bx L : Addr} {S : BoxS} (h : LBx (L :: as) H bx S) : LBx as H bx S := by
  obtain ⟨l1, l3, ys, h1, h2, h3, h4, h5, h6, h7, h8, h9, h10, h11⟩ := h
  exact ⟨l1, l3, ys, h1, h2, h3, h4, h5, h6, h7, h8, h9, fun z => h10 (List.mem_cons_of_mem _ z), fun z => h11 (List.mem_cons_of_mem _ z)⟩
theorem LBx.new {as : List Addr} {H : Hp} {bx L : Addr} {S : BoxS} (h : LBx as H bx S) (hL : H L = none) : LBx (L :: as) H bx S := by
  obtain ⟨l1, l3, ys, h1, h2, h3, h4, h5, h6, h7, h8, h9, h10, h11⟩ := h
  refine ⟨l1, l3, ys, h1, h2, h3, h4, h5, h6, h7, h8, h9, fun z => ?_, fun z => ?_⟩
  · rcases List.mem_cons.mp z with z | z
    · exact ne_of_none h2 hL z
    · exact h10 z
  · rcases List.mem_cons.mp z with z | z
    · exact ne_of_none h3 hL z
    · exact h11 z
theorem act_T {S : BoxS} {U : ToldS} {a : Str} : (act (S, U) a).1 = (act (S, T0) a).1 ∧ (act (S, U) a).2 = { U with letters := U.letters ++ (act (S, T0) a).2.letters } := by
  have e0 : ∀ V : ToldS, V = { V with letters := V.letters ++ ([] : List Int) } := fun V => by
    cases V
    simp
  unfold act
  split
  · unfold sendCode
    show (if S.tf = "full" then _ else _ : BoxS × ToldS).1 = (if S.tf = "full" then _ else _ : BoxS × ToldS).1 ∧ _
    split
    · cases hl : S.last with
      | none => simp only [hl]; exact ⟨trivial, e0 U⟩
      | some p => simp only [hl]; exact ⟨trivial, rfl⟩
    · exact ⟨rfl, e0 U⟩
  · split
    · exact ⟨rfl, e0 U⟩
    · split
      · exact ⟨rfl, e0 U⟩
      · split
        · exact ⟨rfl, e0 U⟩
        · exact ⟨rfl, e0 U⟩
theorem fold_T : ∀ (r : RuleL) (S : BoxS) (U : ToldS), (r.foldl act (S, U)).1 = (r.foldl act (S, T0)).1 ∧ (r.foldl act (S, U)).2 = { U with letters := U.letters ++ (r.foldl act (S, T0)).2.letters }
  | [], S, U => ⟨rfl, by cases U; simp [T0]⟩
  | a :: r, S, U => by
    obtain ⟨h1, h2⟩ := act_T (S := S) (U := U) (a := a)
    rcases hA : act (S, U) a with ⟨S', U'⟩
    rcases hB : act (S, T0) a with ⟨S0, U0⟩
    rw [hA, hB] at h1 h2
    simp only at h1 h2
    subst h1
    have i1 := fold_T r S' U'
    have i0 := fold_T r S' U0
    rw [List.foldl_cons, List.foldl_cons, hA, hB]
    refine ⟨i1.1.trans i0.1.symm, ?_⟩
    rw [i1.2, i0.2, h2]
    simp only [List.append_assoc]
theorem fold_valid : ∀ (r : RuleL) (x : BoxS × ToldS), x.1.valid.Nodup → (r.foldl act x).1.valid.Nodup
  | [], x, h => h
  | a :: r, x, h => by
    rw [List.foldl_cons]
    refine fold_valid r _ ?_
    unfold act
    split
    · unfold sendCode
      split
      · split
        · rename_i p _
          show (ins p x.1.valid).Nodup
          unfold ins
          split
          · exact h
          · rename_i hn
            exact List.nodup_append.mpr ⟨h, by simp, fun y hy z hz e => hn (by rw [List.mem_singleton.mp hz] at e; rw [← e]; exact hy)⟩
        · exact h
      · exact h
    · split
      · exact List.nodup_nil
      · split
        · exact h
        · split
          · exact h
          · exact h
theorem act_keeps (x : BoxS × ToldS) (a : Str) : (act x a).1.inside = x.1.inside ∧ (act x a).1.last = x.1.last := by
  unfold act
  split
  · unfold sendCode
    split
    · split
      · exact ⟨rfl, rfl⟩
      · exact ⟨rfl, rfl⟩
    · exact ⟨rfl, rfl⟩
  · split
    · exact ⟨rfl, rfl⟩
    · split
      · exact ⟨rfl, rfl⟩
      · split
        · exact ⟨rfl, rfl⟩
        · exact ⟨rfl, rfl⟩
theorem ins_perm {p : Int} {ys vs : List Int} (h : ys.Perm vs) (hn : vs.Nodup) : ((ys.filter fun q => decide (q ≠ p)) ++ [p]).Perm (ins p vs) := by
  have h1 : (ys.filter fun q => decide (q ≠ p)).Perm (vs.filter fun q => decide (q ≠ p)) := h.filter _
  refine (h1.append_right [p]).trans ?_
  unfold ins
  split
  · rename_i hp
    refine List.perm_append_comm.trans ?_
    have : (vs.filter fun q => decide (q ≠ p)) = vs.erase p := by
      rw [hn.erase_eq_filter]
      congr 1
      funext q
      by_cases e : q = p
      · simp [e]
      · simp [e]
    rw [this]
    exact (List.perm_cons_erase hp).symm
  · rename_i hp
    have e2 : vs.filter (fun q => decide (q ≠ p)) = vs := List.filter_eq_self.mpr fun q hq => decide_eq_true (fun e : q = p => hp (e ▸ hq))
    rw [e2]
section
variable {P : Program} {w : World} {K : PySem.W.Frag} {mg : Str → Option Value} {base : Heap}
theorem tupB {K : PySem.W.Frag} {H H' : Hp} {bx L t : Addr} {u v xs : List V} (b : But [bx, L] H H') (h1 : H bx = some (.lst u)) (h2 : H L = some (.lst v)) (h : SqT K H t xs) : SqT K H' t xs := by
  have go : ∀ o, H t = some o → (∀ l, o ≠ .lst l) → H' t = some o := fun o e no => b t o (by
    simp only [List.mem_cons, List.not_mem_nil, or_false, not_or]
    exact ⟨ne_of e h1 (fun z => no _ z), ne_of e h2 (fun z => no _ z)⟩) e
  rcases h with (h | ⟨o, h⟩) | h
  · exact .inl (.inl (go _ h (fun _ z => by cases z)))
  · exact .inl (.inr ⟨o, go _ h (fun _ z => by cases z)⟩)
  · exact .inr h
theorem eqv_nil (l : List Int) : PyData.eqv (.list (l.map PyData.int)) (.list []) = l.isEmpty := by
  cases l with
  | nil => rfl
  | cons x r => rfl
def sp_law_carried (K : PySem.W.Frag) : Sp := fun vs H Q _ => ∃ (t bx : Addr) (r : RuleL) (S : BoxS) (as : List Addr) (n : Nat), vs = [.ref t, .ref bx] ∧ RuleAt K H t r ∧ LBx as H bx S ∧ (∀ x ∈ as, H x ≠ none) ∧ r.length ≤ 6 ∧ Bd n (S, T0) ∧ n ≤ 100000 ∧
  ∀ (H' : Hp) (L : Addr), But [bx] H H' → LBx as H' bx (r.foldl act (S, T0)).1 → H' L = some (.lst ((r.foldl act (S, T0)).2.letters.map V.int)) → H L = none → Q (.ref L) H'
end
end K25

namespace K25
open PySem PySem.Spec PyProof.Rows L2 My StX
def bX0 (p : Int) (S : BoxS) : BoxS := { S with ajar := true, age := some 0, last := some p }
def bF0 (rb : List RuleL) (p : Int) (S : BoxS) : BoxS × ToldS := (at_ rb 0).foldl act (bX0 p S, T0)
def bX1 (rb : List RuleL) (p : Int) (l : Bool) (S : BoxS) : BoxS := if l = true ∧ (bF0 rb p S).1.ajar = true then { (bF0 rb p S).1 with inside := (bF0 rb p S).1.inside ++ [p] } else (bF0 rb p S).1
def bF1 (rb : List RuleL) (p : Int) (l s : Bool) (S : BoxS) : BoxS × ToldS := (at_ rb (if s = true then 1 else 2)).foldl act ({ bX1 rb p l S with ajar := !s }, T0)
theorem bX1_ajar {rb : List RuleL} {p : Int} {l : Bool} {S : BoxS} : (bX1 rb p l S).ajar = (bF0 rb p S).1.ajar := by
  unfold bX1
  split <;> rfl
theorem bring_T {rb : List RuleL} {p : Int} {l s : Bool} {S : BoxS} (ht : S.tf = "free") :
    (bringF rb p l s S).2.opened = true ∧ (bringF rb p l s S).2.got = [] ∧
    ((bF0 rb p S).1.ajar = false → (bringF rb p l s S).1 = bX1 rb p l S ∧ (bringF rb p l s S).2.letters = (bF0 rb p S).2.letters) ∧
    ((bF0 rb p S).1.ajar = true → (bringF rb p l s S).1 = (bF1 rb p l s S).1 ∧ (bringF rb p l s S).2.letters = (bF0 rb p S).2.letters ++ (bF1 rb p l s S).2.letters) := by
  have e0 : ∃ U : ToldS, carry (at_ rb 0) "given" (bX0 p S, { T0 with opened := true }) = ((bF0 rb p S).1, U) ∧ U.letters = (bF0 rb p S).2.letters ∧ U.opened = true ∧ U.got = [] := by
    have h := fold_T (at_ rb 0) (bX0 p S) { T0 with opened := true, moments := ["given"] }
    refine ⟨(carry (at_ rb 0) "given" (bX0 p S, { T0 with opened := true })).2, ?_, ?_, ?_, ?_⟩
    · exact Prod.ext h.1 rfl
    · show ((at_ rb 0).foldl act (bX0 p S, { T0 with opened := true, moments := ["given"] })).2.letters = _
      rw [h.2]
      rfl
    · show ((at_ rb 0).foldl act (bX0 p S, { T0 with opened := true, moments := ["given"] })).2.opened = _
      rw [h.2]
    · show ((at_ rb 0).foldl act (bX0 p S, { T0 with opened := true, moments := ["given"] })).2.got = _
      rw [h.2]
      rfl
  obtain ⟨U, e0, u1, u2, u3⟩ := e0
  have e1 : ∃ U1 : ToldS, layIn p l ((bF0 rb p S).1, U) = (bX1 rb p l S, U1) ∧ U1.letters = U.letters ∧ U1.opened = U.opened ∧ U1.got = U.got := by
    unfold layIn bX1
    split
    · exact ⟨_, rfl, rfl, rfl, rfl⟩
    · exact ⟨_, rfl, rfl, rfl, rfl⟩
  obtain ⟨U1, e1, v1, v2, v3⟩ := e1
  have e2 : bringF rb p l s S = goAway s "laid" "left" (at_ rb 1) (at_ rb 2) (bX1 rb p l S, U1) := by
    unfold bringF
    rw [if_pos ht]
    show goAway s "laid" "left" (at_ rb 1) (at_ rb 2) (layIn p l (carry (at_ rb 0) "given" (bX0 p S, { T0 with opened := true }))) = _
    rw [e0, e1]
  rw [e2]
  unfold goAway
  by_cases hj : (bF0 rb p S).1.ajar = true
  · have hj1 : (bX1 rb p l S).ajar = true := by rw [bX1_ajar]; exact hj
    rw [if_pos hj1]
    cases s with
    | true =>
      have h := fold_T (at_ rb 1) { bX1 rb p l S with ajar := false } { U1 with moments := U1.moments ++ [("laid" : Str)] }
      rw [if_pos rfl]
      refine ⟨?_, ?_, fun z => absurd (hj.symm.trans z) (by decide), fun _ => ⟨h.1, ?_⟩⟩
      · show ((at_ rb 1).foldl act (_, { U1 with moments := U1.moments ++ [("laid" : Str)] })).2.opened = _
        rw [h.2]; exact v2.trans u2
      · show ((at_ rb 1).foldl act (_, { U1 with moments := U1.moments ++ [("laid" : Str)] })).2.got = _
        rw [h.2]; exact v3.trans u3
      · show ((at_ rb 1).foldl act (_, { U1 with moments := U1.moments ++ [("laid" : Str)] })).2.letters = _
        rw [h.2]
        show U1.letters ++ _ = _
        rw [v1, u1]
        rfl
    | false =>
      have ex : ({ bX1 rb p l S with ajar := !false } : BoxS) = bX1 rb p l S := by
        show ({ bX1 rb p l S with ajar := true } : BoxS) = _
        rw [← hj1]
      have h := fold_T (at_ rb 2) (bX1 rb p l S) { U1 with moments := U1.moments ++ [("left" : Str)] }
      rw [if_neg Bool.false_ne_true]
      have ef : bF1 rb p l false S = (at_ rb 2).foldl act (bX1 rb p l S, T0) := by
        unfold bF1
        rw [ex]
        rfl
      rw [ef]
      refine ⟨?_, ?_, fun z => absurd (hj.symm.trans z) (by decide), fun _ => ⟨h.1, ?_⟩⟩
      · show ((at_ rb 2).foldl act (_, { U1 with moments := U1.moments ++ [("left" : Str)] })).2.opened = _
        rw [h.2]; exact v2.trans u2
      · show ((at_ rb 2).foldl act (_, { U1 with moments := U1.moments ++ [("left" : Str)] })).2.got = _
        rw [h.2]; exact v3.trans u3
      · show ((at_ rb 2).foldl act (_, { U1 with moments := U1.moments ++ [("left" : Str)] })).2.letters = _
        rw [h.2]
        show U1.letters ++ _ = _
        rw [v1, u1]
  · have hj1 : ¬ (bX1 rb p l S).ajar = true := by rw [bX1_ajar]; exact hj
    rw [if_neg hj1]
    exact ⟨v2.trans u2, v3.trans u3, fun _ => ⟨rfl, v1.trans u1⟩, fun z => absurd z hj⟩
section
variable {P : Program} {w : World} {K : PySem.W.Frag} {mg : Str → Option Value} {base : Heap}
theorem rule_ix {H : Hp} {qb : List Addr} {rb : List RuleL} (h : Paired (RuleAt K H) qb rb) (hg : GoodB rb) {i : Nat} (hi : i < 8) : ∃ q, atI (qb.map V.ref) (i : Int) = some (.ref q) ∧ RuleAt K H q (at_ rb i) := by
  obtain ⟨q, h1, h2⟩ := paired_get h (hg.get hi)
  exact ⟨q, atI_nat (by rw [List.getElem?_map, h1]; rfl), h2⟩
theorem tupC {H H' : Hp} {bx t : Addr} {u xs : List V} (b : But [bx] H H') (h1 : H bx = some (.lst u)) (h : SqT K H t xs) : SqT K H' t xs := by
  have go : ∀ o, H t = some o → (∀ l, o ≠ .lst l) → H' t = some o := fun o e no => b t o (by simpa using ne_of e h1 (fun z => no _ z)) e
  rcases h with (h | ⟨o, h⟩) | h
  · exact .inl (.inl (go _ h (fun _ z => by cases z)))
  · exact .inl (.inr ⟨o, go _ h (fun _ z => by cases z)⟩)
  · exact .inr h
theorem LBx.put {as : List Addr} {H H2 : Hp} {bx : Addr} {S S2 : BoxS} (h : LBx as H bx S) (b : But [bx] H H2)
    (e : ∀ l1 l3, H bx = some (.lst [.bl S.ajar, .ref l1, .str S.tf, .ref l3, .int (S.last.getD 0)]) → H2 bx = some (.lst [.bl S2.ajar, .ref l1, .str S2.tf, .ref l3, .int (S2.last.getD 0)])) (ei : S2.inside = S.inside) (ev : S2.valid = S.valid)
    (hp : ∀ p, S2.last = some p → 1 ≤ p) : LBx as H2 bx S2 := by
  obtain ⟨l1, l3, ys, h1, h2, h3, h4, h5, h6, h7, h8, h9, h10, h11⟩ := h
  exact ⟨l1, l3, ys, e _ _ h1, by rw [ei]; exact b _ _ (by simpa using h6) h2, b _ _ (by simpa using h7) h3, by rw [ev]; exact h4, h5, h6, h7, by rw [ev]; exact h8, hp, h10, h11⟩
theorem fold_keeps : ∀ (r : RuleL) (x : BoxS × ToldS), (r.foldl act x).1.inside = x.1.inside ∧ (r.foldl act x).1.last = x.1.last
  | [], x => ⟨rfl, rfl⟩
  | a :: r, x => by
    rw [List.foldl_cons]
    exact ⟨(fold_keeps r _).1.trans (act_keeps x a).1, (fold_keeps r _).2.trans (act_keeps x a).2⟩
/-- a report of the law's own, none of whose lists is one of these -/
def RepB (as : List Addr) (H : Hp) (p : Addr) (U : ToldS) : Prop := ∃ e1 e2, ItAt H (p, e1, e2) U ∧ e1 ∉ as ∧ e2 ∉ as
def sp_law_bring (K : PySem.W.Frag) : Sp := fun vs H Q _ => ∃ (rl bx t : Addr) (p : Int) (qb : List Addr) (rb : List RuleL) (S : BoxS) (as : List Addr) (n : Nat) (l s : Bool), vs = [.ref rl, .ref bx, .ref t, .int p] ∧ H rl = some (.lst (qb.map V.ref)) ∧ Paired (RuleAt K H) qb rb ∧ GoodB rb ∧ rl ≠ bx ∧
  LBx as H bx S ∧ (∀ x ∈ as, H x ≠ none) ∧ bx ∉ as ∧ SqT K H t [.str "bring", .bl l, .bl s] ∧ 1 ≤ p ∧ Bd n (S, T0) ∧ n ≤ 90000 ∧
  ∀ (H' : Hp) (r : Addr), But [bx] H H' → LBx as H' bx (bringF rb p l s S).1 → RepB as H' r (bringF rb p l s S).2 → Q (.ref r) H'
end
end K25

namespace K25
open PySem PySem.Spec PyProof.Rows L2 My StX
def Sprs (H : Hp) (as : List Addr) (n : Nat) : Prop := ∀ x ∈ as, SpringAt H x n
theorem Sprs.mono {H : Hp} {as : List Addr} {n m : Nat} (h : Sprs H as n) (e : n ≤ m) : Sprs H as m := fun x hx => (h x hx).mono e
theorem Sprs.same {H H' : Hp} {as : List Addr} {n : Nat} (s : Same H H') (h : Sprs H as n) : Sprs H' as n := fun x hx => (h x hx).same s
theorem Sprs.draw {H H' : Hp} {as : List Addr} {n m : Nat} {a : Addr} (h : Sprs H as n) (b : But [a] H H') (s : SpringAt H' a m) (e : n ≤ m) : Sprs H' as m := fun x hx => by
  by_cases hxa : x = a
  · rw [hxa]; exact s
  · obtain ⟨w0, w1, w2, h1, h2, h3, h4⟩ := h x hx
    exact ⟨w0, w1, w2, b _ _ (by simpa using hxa) h1, h2, h3, by omega⟩
theorem Sprs.put {H : Hp} {as : List Addr} {n : Nat} {b : Addr} {o o2 : HO} (h : Sprs H as n) (hb : H b = some o) (no : ∀ i r, o ≠ .lst (.int i :: r)) : Sprs (upd H b o2) as n := fun x hx => (h x hx).put ((h x hx).ne hb no)
theorem Sprs.but {H H' : Hp} {as : List Addr} {n : Nat} {b : Addr} (h : Sprs H as n) (s : But [b] H H') (hn : b ∉ as) : Sprs H' as n := fun x hx => by
  obtain ⟨w0, w1, w2, h1, h2⟩ := h x hx
  exact ⟨w0, w1, w2, s _ _ (by simpa using fun e : x = b => hn (e ▸ hx)) h1, h2⟩
theorem rawS {H H' : Hp} {a b : Addr} {n : Nat} {o : HO} (s : But [a] H H') (h : SpringAt H a n) (t : H b = some o) (no : ∀ i r, o ≠ .lst (.int i :: r)) : H' b = some o := s _ _ (by simpa using (h.ne t no).symm) t
theorem tupU {K : PySem.W.Frag} {H : Hp} {D b : Addr} {l xs : List V} {o : HO} (h : H D = some (.lst l)) (t : SqT K H b xs) : SqT K (upd H D o) b xs := by
  rcases t with (t | ⟨o, t⟩) | t
  · exact .inl (.inl (by rw [upd_ne (ne_of t h (fun z => by cases z))]; exact t))
  · exact .inl (.inr ⟨o, by rw [upd_ne (ne_of t h (fun z => by cases z))]; exact t⟩)
  · exact .inr t
theorem trefs_no (zs : List (Addr × Addr × Addr)) (i : Int) (r : List V) : HO.lst (zs.map fun z => V.ref z.1) ≠ .lst (.int i :: r) := by
  intro z
  cases zs with
  | nil => cases z
  | cons x l => cases z
theorem new_rule {K : PySem.W.Frag} {H : Hp} {t : Addr} {r : RuleL} (h : H t = none) : Same H (upd H t (.tup (r.map V.str))) ∧ RuleAt K (upd H t (.tup (r.map V.str))) t r := ⟨same_new h, SqT.of upd_same⟩
theorem paired_append {α β : Type} {F : α → β → Prop} : ∀ {l : List α} {m : List β} {l2 : List α} {m2 : List β}, Paired F l m → Paired F l2 m2 → Paired F (l ++ l2) (m ++ m2)
  | _, _, _, _, .nil, h => h
  | _, _, _, _, .cons r t, h => .cons r (paired_append t h)
theorem LBx.draw {ext : List Addr} {H H' : Hp} {bx a : Addr} {n : Nat} {S : BoxS} (h : LBx ext H bx S) (b : But [a] H H') (hs : SpringAt H a n) (ha : a ∈ ext) : LBx ext H' bx S := by
  obtain ⟨l1, l3, ys, h1, h2, h3, h4, h5, h6, h7, h8, h9, h10, h11⟩ := h
  exact ⟨l1, l3, ys, rawS b hs h1 (fun _ _ z => by cases z), b _ _ (by simpa using fun e : l1 = a => h10 (e ▸ ha)) h2, b _ _ (by simpa using fun e : l3 = a => h11 (e ▸ ha)) h3, h4, h5, h6, h7, h8, h9, h10, h11⟩
theorem LBx.set {ext : List Addr} {H : Hp} {bx a : Addr} {o : HO} {S : BoxS} (h : LBx ext H bx S) (ha : a ∈ ext) (hn : bx ≠ a) : LBx ext (upd H a o) bx S := by
  obtain ⟨l1, l3, ys, h1, h2, h3, h4, h5, h6, h7, h8, h9, h10, h11⟩ := h
  exact ⟨l1, l3, ys, by rw [upd_ne hn]; exact h1, by rw [upd_ne (fun e : l1 = a => h10 (e ▸ ha))]; exact h2, by rw [upd_ne (fun e : l3 = a => h11 (e ▸ ha))]; exact h3, h4, h5, h6, h7, h8, h9, h10, h11⟩
/-! ### what the run of brings and failures keeps -/
theorem runF_snoc (rb : List RuleL) (d : Int) (ds : List Deed) (x : Deed) : runF rb d (ds ++ [x]) = stepF rb d (runF rb d ds) x := by
  unfold runF
  rw [List.foldl_append]
  rfl
def TfOk (x : Str) : Prop := PyData.canLay0 (.str x) = true
theorem acts_ok : ∀ x ∈ acts, TfOk x := by
  intro x hx
  simp only [acts, List.mem_cons, List.not_mem_nil, or_false] at hx
  unfold TfOk
  rcases hx with rfl | rfl | rfl | rfl | rfl | rfl | rfl <;> decide +kernel
theorem act_tf {x : BoxS × ToldS} {a : Str} (h : TfOk x.1.tf) (ha : a ∈ acts) : TfOk (act x a).1.tf ∧ (act x a).1.age = x.1.age := by
  unfold act
  split
  · unfold sendCode
    split
    · split
      · exact ⟨h, rfl⟩
      · exact ⟨h, rfl⟩
    · exact ⟨h, rfl⟩
  · split
    · exact ⟨h, rfl⟩
    · split
      · refine ⟨?_, rfl⟩
        show TfOk (if x.1.inside.isEmpty = true then "free" else "full")
        unfold TfOk
        split <;> decide +kernel
      · split
        · exact ⟨h, rfl⟩
        · exact ⟨acts_ok _ ha, rfl⟩
theorem fold_tf : ∀ (r : RuleL) (x : BoxS × ToldS), (∀ a ∈ r, a ∈ acts) → TfOk x.1.tf → TfOk (r.foldl act x).1.tf ∧ (r.foldl act x).1.age = x.1.age
  | [], x, _, h => ⟨h, rfl⟩
  | a :: r, x, ha, h => by
    rw [List.foldl_cons]
    have h1 := act_tf h (ha a (List.mem_cons_self ..))
    have h2 := fold_tf r (act x a) (fun b hb => ha b (List.mem_cons_of_mem _ hb)) h1.1
    exact ⟨h2.1, h2.2.trans h1.2⟩
structure BoxOk (S : BoxS) : Prop where
  tf : TfOk S.tf
  ag : S.age = S.last.map fun _ => 0
theorem at_acts {rb : List RuleL} (hg : GoodB rb) {i : Nat} (hi : i < 8) : ∀ a ∈ at_ rb i, a ∈ acts := (hg.good _ (List.mem_of_getElem? (hg.get hi))).2
theorem power_ok {rb : List RuleL} {S : BoxS} (hg : GoodB rb) (h : BoxOk S) : BoxOk ((at_ rb 7).foldl act (S, T0)).1 := by
  have h1 := fold_tf (at_ rb 7) (S, T0) (at_acts hg (by decide)) h.tf
  have h2 := fold_keeps (at_ rb 7) (S, T0)
  exact ⟨h1.1, by rw [h1.2, h2.2]; exact h.ag⟩
theorem bring_ok {rb : List RuleL} {p : Int} {l s : Bool} {S : BoxS} (hg : GoodB rb) (h : BoxOk S) : BoxOk (bringF rb p l s S).1 := by
  by_cases cf : S.tf = "free"
  · obtain ⟨_, _, bF, bT⟩ := bring_T (rb := rb) (p := p) (l := l) (s := s) cf
    have h0 := fold_tf (at_ rb 0) (bX0 p S, T0) (at_acts hg (by decide)) h.tf
    have k0 := fold_keeps (at_ rb 0) (bX0 p S, T0)
    have ok1 : BoxOk (bX1 rb p l S) := by
      unfold bX1
      split
      · exact ⟨h0.1, by show (bF0 rb p S).1.age = (bF0 rb p S).1.last.map _; rw [show (bF0 rb p S).1.age = _ from h0.2, show (bF0 rb p S).1.last = _ from k0.2]; rfl⟩
      · exact ⟨h0.1, by rw [show (bF0 rb p S).1.age = _ from h0.2, show (bF0 rb p S).1.last = _ from k0.2]; rfl⟩
    cases haj : (bF0 rb p S).1.ajar with
    | false => rw [(bF haj).1]; exact ok1
    | true =>
      rw [(bT haj).1]
      have hk : (if s = true then 1 else 2) < 8 := by split <;> decide
      have h1 := fold_tf (at_ rb (if s = true then 1 else 2)) ({ bX1 rb p l S with ajar := !s }, T0) (at_acts hg hk) ok1.tf
      have k1 := fold_keeps (at_ rb (if s = true then 1 else 2)) ({ bX1 rb p l S with ajar := !s }, T0)
      exact ⟨h1.1, by rw [show (bF1 rb p l s S).1.age = _ from h1.2, show (bF1 rb p l s S).1.last = _ from k1.2]; exact ok1.ag⟩
  · have eb : bringF rb p l s S = (S, T0) := by unfold bringF; rw [if_neg cf]
    rw [eb]
    exact h
theorem power_T {rb : List RuleL} {S : BoxS} : (powerF rb S).1 = ((at_ rb 7).foldl act (S, T0)).1 ∧ (powerF rb S).2.letters = ((at_ rb 7).foldl act (S, T0)).2.letters ∧ (powerF rb S).2.opened = false ∧ (powerF rb S).2.got = [] := by
  have h := fold_T (at_ rb 7) S { T0 with moments := ["power"] }
  unfold powerF carry
  refine ⟨h.1, ?_, ?_, ?_⟩
  · show ((at_ rb 7).foldl act (S, { T0 with moments := ["power"] })).2.letters = _
    rw [h.2]
    rfl
  · show ((at_ rb 7).foldl act (S, { T0 with moments := ["power"] })).2.opened = _
    rw [h.2]
    rfl
  · show ((at_ rb 7).foldl act (S, { T0 with moments := ["power"] })).2.got = _
    rw [h.2]
    rfl
theorem bring_got {rb : List RuleL} {p : Int} {l s : Bool} {S : BoxS} : (bringF rb p l s S).2.got = [] := by
  by_cases cf : S.tf = "free"
  · exact (bring_T (rb := rb) (p := p) (l := l) (s := s) cf).2.1
  · have eb : bringF rb p l s S = (S, T0) := by unfold bringF; rw [if_neg cf]
    rw [eb]
    rfl
end K25

namespace K25
open PySem PySem.Spec PyProof.Rows L2 My StX
theorem act_in (x : BoxS × ToldS) (a : Str) : (act x a).1.inside = x.1.inside := by
  unfold act
  split
  · unfold sendCode
    split
    · split
      · rfl
      · rfl
    · rfl
  · split
    · rfl
    · split
      · rfl
      · split
        · rfl
        · rfl
theorem fold_in : ∀ (r : RuleL) (x : BoxS × ToldS), (r.foldl act x).1.inside = x.1.inside
  | [], x => rfl
  | a :: r, x => by rw [List.foldl_cons, fold_in r, act_in]
theorem foldl_ext (rs : List RuleL) (d : Int) : ∀ (l : List Deed) (st : PlayS), ∃ more, (l.foldl (stepF rs d) st).2.2 = st.2.2 ++ more
  | [], st => ⟨[], by rw [List.append_nil]; rfl⟩
  | x :: l, st => by
    obtain ⟨more, e⟩ := foldl_ext rs d l (stepF rs d st x)
    refine ⟨[(doF rs d (if isBr x = true then st.1 + 1 else st.1) x st.2.1).2] ++ more, ?_⟩
    rw [List.foldl_cons, e, ← List.append_assoc]
    rfl
theorem run_take (rs : List RuleL) (d : Int) (ds : List Deed) (c : Nat) (hc : c ≤ ds.length) : (runF rs d (ds.take c)).2.2 = (runF rs d ds).2.2.take c := by
  have e : runF rs d ds = (ds.drop c).foldl (stepF rs d) (runF rs d (ds.take c)) := by
    unfold runF
    rw [← List.foldl_append, List.take_append_drop]
  obtain ⟨more, h⟩ := foldl_ext rs d (ds.drop c) (runF rs d (ds.take c))
  have hl : (runF rs d (ds.take c)).2.2.length = c := by rw [runF_len, List.length_take]; omega
  have h2 : ((runF rs d (ds.take c)).2.2 ++ more).take c = (runF rs d (ds.take c)).2.2 := by rw [List.take_append_of_le_length (Nat.le_of_eq hl.symm), List.take_of_length_le (Nat.le_of_eq hl)]
  rw [e, h, h2]
theorem run_at (rs : List RuleL) (d : Int) (ds : List Deed) {i : Nat} {x : Deed} {U : ToldS} (hx : ds[i]? = some x) (hU : (runF rs d ds).2.2[i]? = some U) : runF rs d (ds.take (i + 1)) = stepF rs d (runF rs d (ds.take i)) x ∧ U = (doF rs d (if isBr x = true then (runF rs d (ds.take i)).1 + 1 else (runF rs d (ds.take i)).1) x (runF rs d (ds.take i)).2.1).2 := by
  have hi : i < ds.length := (List.getElem?_eq_some_iff.mp hx).1
  have e := runF_more (rs := rs) (d := d) hx
  refine ⟨e, ?_⟩
  have e2 := run_take rs d ds (i + 1) hi
  rw [e] at e2
  have e3 := run_take rs d ds i (Nat.le_of_lt hi)
  have hl : (runF rs d (ds.take i)).2.2.length = i := by rw [runF_len, List.length_take]; omega
  have h4 : ((runF rs d ds).2.2.take (i + 1))[i]? = some U := by rw [List.getElem?_take_of_lt (Nat.lt_succ_self i)]; exact hU
  rw [← e2] at h4
  have h5 : ((runF rs d (ds.take i)).2.2 ++ [(doF rs d (if isBr x = true then (runF rs d (ds.take i)).1 + 1 else (runF rs d (ds.take i)).1) x (runF rs d (ds.take i)).2.1).2])[i]? = some U := h4
  rw [List.getElem?_append_right (by omega), hl, Nat.sub_self] at h5
  exact (Option.some.inj h5).symm
theorem take_got (rs : List RuleL) (d n : Int) (x : Deed) (S : BoxS) : (doF rs d n x S).2.got.length ≤ S.inside.length := by
  have cg : ∀ (r : RuleL) (y : BoxS × ToldS), (r.foldl act y).2.got = y.2.got := by
    intro r
    induction r with
    | nil => intro y; rfl
    | cons a r ih =>
      intro y
      rw [List.foldl_cons, ih]
      unfold act
      split
      · unfold sendCode
        split
        · split
          · rfl
          · rfl
        · rfl
      · split
        · rfl
        · split
          · rfl
          · split
            · rfl
            · rfl
  have ci : ∀ (r : RuleL) (y : BoxS × ToldS), (r.foldl act y).1.inside = y.1.inside := fold_in
  have cc : ∀ (r : RuleL) (m : Str) (y : BoxS × ToldS), (carry r m y).2.got = y.2.got := fun r m y => cg r _
  have go : ∀ (sh : Bool) (m1 m2 : Str) (r1 r2 : RuleL) (y : BoxS × ToldS), (goAway sh m1 m2 r1 r2 y).2.got = y.2.got := by
    intro sh m1 m2 r1 r2 y
    unfold goAway
    split
    · split
      · exact cc _ _ _
      · exact cc _ _ _
    · rfl
  have aw : ∀ (c : Bool) (wd : Str) (y : BoxS × ToldS), (addW c wd y).2.got = y.2.got := by
    intro c wd y
    unfold addW
    split
    · rfl
    · rfl
  cases x with
  | bring l s =>
    show (bringF rs n l s S).2.got.length ≤ _
    unfold bringF
    split
    · rw [go]
      unfold layIn
      split
      · show (carry _ _ _).2.got.length ≤ _
        rw [cc]
        exact Nat.zero_le _
      · rw [cc]
        exact Nat.zero_le _
    · exact Nat.zero_le _
  | code p t s =>
    show (codeF rs p t s S).2.got.length ≤ _
    unfold codeF
    split
    · rw [go, aw]
      unfold takeIf
      split
      · show (carry _ _ _).1.inside.length ≤ _
        exact Nat.le_of_eq (congrArg List.length (ci (at_ rs 3) ({ S with ajar := true }, { T0 with opened := true, moments := ["opened"] })))
      · rw [cc]
        exact Nat.zero_le _
    · rw [aw]
      exact Nat.zero_le _
  | pass =>
    show (passBy S).2.got.length ≤ _
    unfold passBy
    split
    · exact Nat.le_refl _
    · exact Nat.zero_le _
  | day =>
    show (dayF d rs S).2.got.length ≤ _
    unfold dayF
    split
    · exact Nat.zero_le _
    · split
      · rw [cc]
        exact Nat.zero_le _
      · exact Nat.zero_le _
  | power =>
    show (powerF rs S).2.got.length ≤ _
    unfold powerF
    rw [cc]
    exact Nat.zero_le _
theorem bdU_of {rs : List RuleL} {d : Int} {ds : List Deed} (hg : GoodB rs) (hl : ds.length ≤ 240) : ∀ U ∈ (runF rs d ds).2.2, U.letters.length ≤ 4000 ∧ U.got.length ≤ 4000 := fun U hU => by
  obtain ⟨i, hi⟩ := List.mem_iff_getElem?.mp hU
  obtain ⟨x, hx⟩ : ∃ x, ds[i]? = some x := ⟨_, List.getElem?_eq_getElem (by
    have := (List.getElem?_eq_some_iff.mp hi).1
    rw [runF_len] at this
    exact this)⟩
  obtain ⟨_, eU⟩ := run_at rs d ds hx hi
  have hil : i < ds.length := (List.getElem?_eq_some_iff.mp hx).1
  have hb := runF_bd (d := d) hg ds i (Nat.le_of_lt hil)
  have hbd := hb.doF hg (d := d) (k := if isBr x = true then (runF rs d (ds.take i)).1 + 1 else (runF rs d (ds.take i)).1) (x := x)
  have h1 := hbd.l
  have h2 : (runF rs d (ds.take i)).2.1.inside.length ≤ 16 * i := hb.i
  have h3 := take_got rs d (if isBr x = true then (runF rs d (ds.take i)).1 + 1 else (runF rs d (ds.take i)).1) x (runF rs d (ds.take i)).2.1
  rw [← eU] at h1 h3
  exact ⟨by omega, by omega⟩
end K25

namespace K25
open PySem PySem.Spec PyProof.Rows L2 My StX
/-- the words of faults -/
def OkW (ws : List Str) : Prop := ∀ y ∈ ws, PyData.canLay0 (.str y) = true
theorem OkW.nil : OkW [] := fun y h => by cases h
theorem OkW.add {ws : List Str} {z : Str} (h : OkW ws) (hz : PyData.canLay0 (.str z) = true) : OkW (ws ++ [z]) := fun y hy => by
  rcases List.mem_append.mp hy with hy | hy
  · exact h y hy
  · rw [List.mem_singleton.mp hy]; exact hz
theorem lay_ok {p : Int} {l : Bool} {x : BoxS × ToldS} (h : OkW x.2.wrongs) : OkW (layIn p l x).2.wrongs := by
  unfold layIn
  split
  · show OkW (if x.1.inside.isEmpty = true then x.2.wrongs else x.2.wrongs ++ [("two" : Str)])
    split
    · exact h
    · exact h.add (by decide +kernel)
  · exact h
theorem take_ok {o : Option Int} {x : BoxS × ToldS} (h : OkW x.2.wrongs) : OkW (letTake o x).2.wrongs := by
  show OkW (if x.1.inside.any (fun p => decide (some p ≠ o)) = true then x.2.wrongs ++ [("wrong" : Str)] else x.2.wrongs)
  split
  · exact h.add (by decide +kernel)
  · exact h
theorem addW_ok {c : Bool} {wd : Str} {x : BoxS × ToldS} (h : OkW x.2.wrongs) (hw : PyData.canLay0 (.str wd) = true) : OkW (addW c wd x).2.wrongs := by
  unfold addW
  split
  · exact h.add hw
  · exact h
theorem doF_words (rs : List RuleL) (d n : Int) (x : Deed) (S : BoxS) : OkW (doF rs d n x S).2.wrongs := by
  cases x with
  | bring l s =>
    show OkW (bringF rs n l s S).2.wrongs
    unfold bringF
    split
    · rw [go_w]
      refine lay_ok ?_
      rw [carry_w]
      exact OkW.nil
    · exact OkW.nil
  | code p t s =>
    show OkW (codeF rs p t s S).2.wrongs
    unfold codeF
    split
    · rw [go_w]
      refine addW_ok ?_ (by decide +kernel)
      unfold takeIf
      split
      · refine take_ok ?_
        rw [carry_w]
        exact OkW.nil
      · rw [carry_w]; exact OkW.nil
    · exact addW_ok OkW.nil (by decide +kernel)
  | pass =>
    show OkW (passBy S).2.wrongs
    unfold passBy
    split
    · exact take_ok OkW.nil
    · exact OkW.nil
  | day =>
    show OkW (dayF d rs S).2.wrongs
    unfold dayF
    split
    · exact OkW.nil
    · split
      · rw [carry_w]; exact OkW.nil
      · exact OkW.nil
  | power =>
    show OkW (powerF rs S).2.wrongs
    unfold powerF
    rw [carry_w]; exact OkW.nil
theorem run_words (rs : List RuleL) (d : Int) (ds : List Deed) : ∀ U ∈ (runF rs d ds).2.2, OkW U.wrongs := by
  have hh : ∀ (l : List Deed) (st : PlayS), (∀ U ∈ st.2.2, OkW U.wrongs) → ∀ U ∈ (l.foldl (stepF rs d) st).2.2, OkW U.wrongs := by
    intro l
    induction l with
    | nil => intro st h; exact h
    | cons z l ih =>
      intro st h
      rw [List.foldl_cons]
      refine ih _ fun U hU => ?_
      rcases List.mem_append.mp (show U ∈ st.2.2 ++ [_] from hU) with hU | hU
      · exact h U hU
      · rw [List.mem_singleton.mp hU]
        exact doF_words _ _ _ _ _
  exact hh ds _ fun U hU => by cases hU
theorem fl_words : ∀ (n : Nat) (Us : List ToldS), (∀ U ∈ Us, OkW U.wrongs) → ∀ x ∈ fl n Us, PyData.canLay0 (.str x.1) = true
  | _, [], _, x, hx => by cases hx
  | n, U :: r, h, x, hx => by
    rcases List.mem_append.mp (show x ∈ flW U n ++ fl (n + 1) r from hx) with hx | hx
    · obtain ⟨y, hy, rfl⟩ := List.mem_map.mp hx
      exact h U (List.mem_cons_self ..) y hy
    · exact fl_words (n + 1) r (fun V hV => h V (List.mem_cons_of_mem _ hV)) x hx
end K25

namespace K25
open PySem PySem.Spec PyProof.Rows L2 My StX
theorem run_cnt (rs : List RuleL) (d : Int) (ds : List Deed) : (runF rs d ds).1 = (brs ds : Int) := by
  have h : ∀ i, i ≤ ds.length → (runF rs d (ds.take i)).1 = (brs (ds.take i) : Int) := by
    intro i
    induction i with
    | zero => intro _; rfl
    | succ i ih =>
      intro hi
      have hx := List.getElem?_eq_getElem (show i < ds.length by omega)
      rw [runF_more (rs := rs) (d := d) hx, take_more hx]
      show (if isBr _ = true then (runF rs d (ds.take i)).1 + 1 else (runF rs d (ds.take i)).1) = _
      rw [ih (by omega)]
      unfold brs
      rw [List.countP_append, List.countP_singleton]
      split <;> simp
  have := h ds.length (Nat.le_refl _)
  rwa [List.take_length] at this
theorem fl_snoc (Us : List ToldS) (U : ToldS) : fl 0 (Us ++ [U]) = fl 0 Us ++ U.wrongs.map fun x => (x, Us.length) := by
  rw [fl_app, Nat.zero_add]
  show _ ++ (flW U Us.length ++ []) = _
  rw [List.append_nil]
  rfl
structure Du (K : PySem.W.Frag) (H H' : Hp) (F Wl il hl : Addr) (inn had : List Int) (zs : List (Addr × Addr × Addr)) (Us : List ToldS) (ws : List Addr) (wl : List (Str × Nat)) : Prop where
  s : Same H H'
  F0 : H F = none
  W0 : H Wl = none
  hF : H' F = some (.lst (zs.map fun z => V.ref z.1))
  hz : Paired (ItAt H') zs Us
  zn : ∀ z ∈ zs, (z.2.1 ≠ F ∧ z.2.2 ≠ F) ∧ (z.2.1 ≠ Wl ∧ z.2.2 ≠ Wl)
  hW : H' Wl = some (.lst (ws.map V.ref))
  hw : Paired (FItAt H') ws wl
  hi : H' il = some (.lst (inn.map V.int))
  hh : H' hl = some (.lst (had.map V.int))
  nFW : F ≠ Wl
  ni : il ≠ F ∧ il ≠ Wl
  nh : hl ≠ F ∧ hl ≠ Wl
section
variable {K : PySem.W.Frag} {H H' H2 : Hp} {F Wl il hl il2 hl2 : Addr} {inn had inn2 had2 : List Int} {zs : List (Addr × Addr × Addr)} {Us : List ToldS} {ws : List Addr} {wl : List (Str × Nat)}
theorem Du.same (h : Du K H H' F Wl il hl inn had zs Us ws wl) (s : Same H' H2) : Du K H H2 F Wl il hl inn had zs Us ws wl :=
  ⟨h.s.trans s, h.F0, h.W0, s _ _ h.hF, paired_map (fun _ _ _ hh => hh.same s) h.hz, h.zn, s _ _ h.hW, paired_map (fun _ _ _ hh => s _ _ hh) h.hw, s _ _ h.hi, s _ _ h.hh, h.nFW, h.ni, h.nh⟩
theorem Du.mv (h : Du K H H' F Wl il hl inn had zs Us ws wl) (e1 : H' il2 = some (.lst (inn2.map V.int))) (e2 : H' hl2 = some (.lst (had2.map V.int))) (n1 : il2 ≠ F ∧ il2 ≠ Wl) (n2 : hl2 ≠ F ∧ hl2 ≠ Wl) : Du K H H' F Wl il2 hl2 inn2 had2 zs Us ws wl :=
  ⟨h.s, h.F0, h.W0, h.hF, h.hz, h.zn, h.hW, h.hw, e1, e2, h.nFW, n1, n2⟩
theorem it_ne {z : Addr × Addr × Addr} {U : ToldS} {a : Addr} {l : List V} {o : HO} (hh : ItAt H' z U) (ha : H' a = some (.lst l)) (n1 : z.2.1 ≠ a) (n2 : z.2.2 ≠ a) : ItAt (upd H' a o) z U := ⟨(upd_ne (ne_of hh.1 ha (fun e => by cases e))).trans hh.1, (upd_ne n1).trans hh.2.1, (upd_ne n2).trans hh.2.2⟩
theorem Du.found {z : Addr × Addr × Addr} {U : ToldS} (h : Du K H H' F Wl il hl inn had zs Us ws wl) (hz : ItAt H' z U) (n1 : z.2.1 ≠ F ∧ z.2.2 ≠ F) (n2 : z.2.1 ≠ Wl ∧ z.2.2 ≠ Wl) : Du K H (upd H' F (.lst ((zs.map fun z => V.ref z.1) ++ [.ref z.1]))) F Wl il hl inn had (zs ++ [z]) (Us ++ [U]) ws wl :=
  ⟨same_upd h.s h.F0, h.F0, h.W0, by rw [upd_same, List.map_append]; rfl, Paired.snoc (paired_map (fun y _ hy hh => it_ne hh h.hF (h.zn y hy).1.1 (h.zn y hy).1.2) h.hz) (it_ne hz h.hF n1.1 n1.2), fun y hy => by
    rcases List.mem_append.mp hy with hy | hy
    · exact h.zn y hy
    · rw [List.mem_singleton.mp hy]; exact ⟨n1, n2⟩, (upd_ne h.nFW.symm).trans h.hW, paired_map (fun t x _ (hh : FItAt H' t x) => (upd_ne (ne_of hh h.hF (fun e => by cases e))).trans hh) h.hw, (upd_ne h.ni.1).trans h.hi, (upd_ne h.nh.1).trans h.hh, h.nFW, h.ni, h.nh⟩
theorem Du.wrong {t : Addr} {x : Str × Nat} (h : Du K H H' F Wl il hl inn had zs Us ws wl) (ht : FItAt H' t x) : Du K H (upd H' Wl (.lst (ws.map V.ref ++ [.ref t]))) F Wl il hl inn had zs Us (ws ++ [t]) (wl ++ [x]) :=
  ⟨same_upd h.s h.W0, h.F0, h.W0, (upd_ne h.nFW).trans h.hF, paired_map (fun y _ hy hh => it_ne hh h.hW (h.zn y hy).2.1 (h.zn y hy).2.2) h.hz, h.zn, by rw [upd_same, List.map_append]; rfl, Paired.snoc (paired_map (fun t x _ (hh : FItAt H' t x) => (upd_ne (ne_of hh h.hW (fun e => by cases e))).trans hh) h.hw) ((upd_ne (ne_of ht h.hW (fun e => by cases e))).trans ht), (upd_ne h.ni.2).trans h.hi, (upd_ne h.nh.2).trans h.hh, h.nFW, h.ni, h.nh⟩
end
end K25

namespace K25
open PySem PySem.Spec PyProof.Rows L2 My StX
/-! ### rules of codes and locks -/
def CL (r : RuleL) : Prop := ∀ a ∈ r, a = ("code" : Str) ∨ a = ("lock" : Str)
def noL (r : RuleL) : Bool := !decide (("lock" : Str) ∈ r)
def cc (r : RuleL) : Nat := r.count ("code" : Str)
def cv (m : Nat) (p : Int) (l : List Int) : List Int := if m = 0 then l else ins p l
theorem ins_ins {p : Int} {l : List Int} : ins p (ins p l) = ins p l := by
  have h : p ∈ ins p l := by
    unfold ins
    split
    · assumption
    · exact List.mem_append_right _ (List.mem_singleton.mpr rfl)
  show (if p ∈ ins p l then ins p l else ins p l ++ [p]) = ins p l
  rw [if_pos h]
theorem cv_cv {m k : Nat} {p : Int} {l : List Int} : cv m p (cv k p l) = cv (k + m) p l := by
  unfold cv
  by_cases hm : m = 0
  · subst hm
    rw [if_pos rfl, Nat.add_zero]
  · rw [if_neg hm, if_neg (show ¬ k + m = 0 by omega)]
    split
    · rfl
    · exact ins_ins
theorem foldCL {p : Int} : ∀ (r : RuleL) (S : BoxS) (U : ToldS), CL r → S.tf = "full" → S.last = some p →
    r.foldl act (S, U) = ({ S with ajar := S.ajar && noL r, valid := cv (cc r) p S.valid, sent := cv (cc r) p S.sent }, { U with letters := U.letters ++ List.replicate (cc r) p })
  | [], S, U, _, _, _ => by
    rw [List.foldl_nil]
    have e1 : noL [] = true := rfl
    have e2 : cc [] = 0 := rfl
    rw [e1, e2, Bool.and_true, List.replicate_zero, List.append_nil]
    rfl
  | a :: r, S, U, h, ht, hp => by
    have hr : CL r := fun x hx => h x (List.mem_cons_of_mem _ hx)
    rw [List.foldl_cons]
    rcases h a (List.mem_cons_self ..) with e | e
    · subst e
      have ea : act (S, U) "code" = ({ S with valid := ins p S.valid, sent := ins p S.sent }, { U with letters := U.letters ++ [p] }) := by
        unfold act
        rw [if_pos rfl]
        unfold sendCode
        rw [if_pos ht]
        simp only [hp]
      have e1 : noL ("code" :: r) = noL r := by
        unfold noL
        congr 1
        exact decide_eq_decide.mpr ⟨fun z => (List.mem_cons.mp z).resolve_left (by decide), fun z => List.mem_cons_of_mem _ z⟩
      have e2 : cc ("code" :: r) = cc r + 1 := by unfold cc; rw [List.count_cons_self]
      have e3 : ∀ l : List Int, cv (cc r) p (ins p l) = cv (cc r + 1) p l := fun l => by
        have : ins p l = cv 1 p l := rfl
        rw [this, cv_cv, Nat.add_comm]
      rw [ea]
      refine (foldCL (p := p) r { S with valid := ins p S.valid, sent := ins p S.sent } { U with letters := U.letters ++ [p] } hr ht hp).trans ?_
      rw [e1, e2, List.replicate_succ, ← e3, ← e3]
      show (_, ToldS.mk ((U.letters ++ [p]) ++ _) _ _ _ _) = _
      rw [List.append_assoc]
      rfl
    · subst e
      have ea : act (S, U) "lock" = ({ S with ajar := false }, U) := by
        unfold act
        rw [if_neg (by decide), if_neg (by decide), if_neg (by decide), if_pos rfl]
      have e1 : noL ("lock" :: r) = false := by
        unfold noL
        rw [decide_eq_true (List.mem_cons_self ..)]
        rfl
      have e2 : cc ("lock" :: r) = cc r := by unfold cc; rw [List.count_cons_of_ne (by decide)]
      rw [ea]
      refine (foldCL (p := p) r { S with ajar := false } U hr ht hp).trans ?_
      rw [e1, e2, Bool.and_false]
      rfl
theorem carryCL {p : Int} {r : RuleL} {m : Str} {S : BoxS} {U : ToldS} (h : CL r) (ht : S.tf = "full") (hp : S.last = some p) :
    carry r m (S, U) = ({ S with ajar := S.ajar && noL r, valid := cv (cc r) p S.valid, sent := cv (cc r) p S.sent }, { U with letters := U.letters ++ List.replicate (cc r) p, moments := U.moments ++ [m] }) := by
  unfold carry
  rw [foldCL r _ _ h ht hp]
end K25

namespace K25
open PySem PySem.Spec PyProof.Rows L2 My StX
/-! ### rules that take for full, send letters, take for free -/
def rul (m : Nat) : RuleL := ("full" : Str) :: (List.replicate m ("code" : Str) ++ [("free" : Str)])
theorem cl_rep (m : Nat) : CL (List.replicate m ("code" : Str)) := fun a ha => .inl (List.mem_replicate.mp ha).2
theorem nl_rep (m : Nat) : noL (List.replicate m ("code" : Str)) = true := by
  unfold noL
  rw [decide_eq_false (fun z => by
    have := (List.mem_replicate.mp z).2
    exact absurd this (by decide))]
  rfl
theorem cc_rep (m : Nat) : cc (List.replicate m ("code" : Str)) = m := by
  unfold cc
  rw [List.count_replicate_self]
theorem a_full (x : BoxS × ToldS) : act x "full" = ({ x.1 with tf := "full" }, x.2) := by
  unfold act
  rw [if_neg (by decide), if_neg (by decide), if_neg (by decide), if_neg (by decide)]
theorem a_free (x : BoxS × ToldS) : act x "free" = ({ x.1 with tf := "free" }, x.2) := by
  unfold act
  rw [if_neg (by decide), if_neg (by decide), if_neg (by decide), if_neg (by decide)]
theorem foldR {m : Nat} {p : Int} {S : BoxS} {U : ToldS} (hl : S.last = some p) : (rul m).foldl act (S, U) = ({ S with tf := "free", valid := cv m p S.valid, sent := cv m p S.sent }, { U with letters := U.letters ++ List.replicate m p }) := by
  unfold rul
  rw [List.foldl_cons, a_full, List.foldl_append]
  have h := foldCL (p := p) (List.replicate m ("code" : Str)) { S with tf := "full" } U (cl_rep m) rfl hl
  rw [nl_rep, cc_rep, Bool.and_true] at h
  show List.foldl act (List.foldl act ({ S with tf := "full" }, U) (List.replicate m ("code" : Str))) [("free" : Str)] = _
  rw [h, List.foldl_cons, List.foldl_nil, a_free]
theorem foldN : ∀ (m : Nat) {S : BoxS} {U : ToldS}, S.last = none → (List.replicate m ("code" : Str)).foldl act (S, U) = (S, U)
  | 0, _, _, _ => rfl
  | m + 1, S, U, h => by
    have e : act (S, U) "code" = (S, U) := by
      unfold act
      rw [if_pos rfl]
      unfold sendCode
      split
      · simp only [h]
      · rfl
    rw [List.replicate_succ, List.foldl_cons, e]
    exact foldN m h
theorem foldRN {m : Nat} {S : BoxS} {U : ToldS} (hl : S.last = none) (hf : S.tf = "free") : (rul m).foldl act (S, U) = (S, U) := by
  unfold rul
  rw [List.foldl_cons, a_full, List.foldl_append]
  have h := foldN m (S := { S with tf := "full" }) (U := U) hl
  show List.foldl act (List.foldl act ({ S with tf := "full" }, U) (List.replicate m ("code" : Str))) [("free" : Str)] = _
  rw [h, List.foldl_cons, List.foldl_nil, a_free]
  obtain ⟨aj, ii, tf, va, ag, la, sn, sv⟩ := S
  simp only at hf
  subst hf
  rfl
structure Bk25 (rb : List RuleL) (m0 m1 : Nat) : Prop where
  g : GoodB rb
  e : (at_ rb 0 = rul m0 ∧ at_ rb 1 = [] ∧ at_ rb 2 = []) ∨ (at_ rb 0 = [] ∧ at_ rb 1 = rul m0 ∧ at_ rb 2 = rul m0)
  e3 : at_ rb 3 = []
  e4 : at_ rb 4 = []
  e5 : at_ rb 5 = []
  e6 : at_ rb 6 = [("void" : Str)]
  e7 : at_ rb 7 = rul m1
theorem bring25 {rb : List RuleL} {m0 m1 : Nat} (hb : Bk25 rb m0 m1) {p : Int} {l : Bool} {S : BoxS} (hf : S.tf = "free") :
    ∃ ms, bringF rb p l true S = ({ S with ajar := false, age := some 0, last := some p, tf := "free", inside := if l = true then S.inside ++ [p] else S.inside, valid := cv m0 p S.valid, sent := cv m0 p S.sent }, ⟨List.replicate m0 p, true, [], if (l && !S.inside.isEmpty) = true then [("two" : Str)] else [], ms⟩) := by
  obtain ⟨aj, ii, tf, va, ag, la, sn, sv⟩ := S
  simp only at hf
  subst hf
  have e0 : ∀ (m : Str) (x : BoxS × ToldS), carry [] m x = (x.1, { x.2 with moments := x.2.moments ++ [m] }) := fun _ _ => rfl
  have e1 : ∀ (m : Str) (S : BoxS) (U : ToldS), S.last = some p → carry (rul m0) m (S, U) = ({ S with tf := "free", valid := cv m0 p S.valid, sent := cv m0 p S.sent }, { U with letters := U.letters ++ List.replicate m0 p, moments := U.moments ++ [m] }) := fun m S U h => by
    unfold carry
    rw [foldR h]
  have el : ∀ (S : BoxS) (U : ToldS), S.ajar = true → U.wrongs = [] → layIn p l (S, U) = ({ S with inside := if l = true then S.inside ++ [p] else S.inside }, { U with wrongs := if (l && !S.inside.isEmpty) = true then [("two" : Str)] else [] }) := fun S U ha hu => by
    obtain ⟨aj, ii, tf, va, ag, la, sn, sv⟩ := S
    obtain ⟨a1, a2, a3, a4, a5⟩ := U
    simp only at ha hu
    subst ha hu
    unfold layIn
    cases l with
    | false => rfl
    | true =>
      rw [if_pos ⟨rfl, rfl⟩]
      show (_, ToldS.mk _ _ _ (if ii.isEmpty = true then [] else [] ++ [("two" : Str)]) _) = (_, ToldS.mk _ _ _ (if (true && !ii.isEmpty) = true then _ else _) _)
      cases ii.isEmpty <;> rfl
  have eg : ∀ (r1 r2 : RuleL) (x : BoxS × ToldS), x.1.ajar = true → goAway true "laid" "left" r1 r2 x = carry r1 "laid" ({ x.1 with ajar := false }, x.2) := fun r1 r2 x h => by
    unfold goAway
    rw [if_pos h, if_pos rfl]
  unfold bringF
  rw [if_pos (show ("free" : Str) = "free" from rfl)]
  rcases hb.e with ⟨h0, h1, h2⟩ | ⟨h0, h1, h2⟩
  · rw [h0, h1, h2, e1 _ _ _ rfl, el _ _ rfl rfl, eg _ _ _ rfl, e0]
    exact ⟨_, rfl⟩
  · rw [h0, h1, h2, e0, el _ _ rfl rfl, eg _ _ _ rfl, e1 _ _ _ rfl]
    exact ⟨_, rfl⟩
theorem power25 {rb : List RuleL} {m0 m1 : Nat} (hb : Bk25 rb m0 m1) {p : Int} {S : BoxS} (hf : S.tf = "free") (hl : S.last = some p) :
    ∃ ms, powerF rb S = ({ S with valid := cv m1 p S.valid, sent := cv m1 p S.sent }, ⟨List.replicate m1 p, false, [], [], ms⟩) := by
  obtain ⟨aj, ii, tf, va, ag, la, sn, sv⟩ := S
  simp only at hf
  subst hf
  unfold powerF carry
  rw [hb.e7, foldR hl]
  exact ⟨_, rfl⟩
theorem power25n {rb : List RuleL} {m0 m1 : Nat} (hb : Bk25 rb m0 m1) {S : BoxS} (hf : S.tf = "free") (hl : S.last = none) : ∃ ms, powerF rb S = (S, ⟨[], false, [], [], ms⟩) := by
  unfold powerF carry
  rw [hb.e7, foldRN hl hf]
  exact ⟨_, rfl⟩
theorem day25 {rb : List RuleL} {m0 m1 : Nat} (hb : Bk25 rb m0 m1) {d a : Int} {S : BoxS} (ha : S.age = some a) :
    ∃ ms, dayF d rb S = ({ S with age := some (a + 1), valid := if a + 1 = d then [] else S.valid }, ⟨[], false, [], [], ms⟩) := by
  obtain ⟨aj, ii, tf, va, ag, la, sn, sv⟩ := S
  simp only at ha
  subst ha
  unfold dayF
  simp only
  by_cases c : a + 1 = d
  · refine ⟨[("late" : Str)], ?_⟩
    rw [if_pos c, if_pos c, hb.e6]
    rfl
  · refine ⟨[], ?_⟩
    rw [if_neg c, if_neg c]
    rfl
theorem day25n {rb : List RuleL} {d : Int} {S : BoxS} (ha : S.age = none) : dayF d rb S = (S, T0) := by
  unfold dayF
  simp only [ha]
theorem code25 {rb : List RuleL} {m0 m1 : Nat} (hb : Bk25 rb m0 m1) {p : Int} {t : Bool} {S : BoxS} (hv : p ∈ S.valid) :
    ∃ ms, codeF rb p t true S = ({ S with ajar := false, inside := if t = true then [] else S.inside, served := if t = true then (if p ∈ S.inside then ins p S.served else S.served) else S.served },
      ⟨[], true, if t = true then S.inside else [], (if (if t = true then S.inside else []).any (fun q => decide (q ≠ p)) = true then [("wrong" : Str)] else []) ++ (if missF p S = true then [("empty" : Str)] else []), ms⟩) := by
  have e0 : ∀ (m : Str) (x : BoxS × ToldS), carry [] m x = (x.1, { x.2 with moments := x.2.moments ++ [m] }) := fun _ _ => rfl
  have eany : ∀ l : List Int, l.any (fun q => decide (some q ≠ some p)) = l.any (fun q => decide (q ≠ p)) := fun l => by
    congr 1
    funext q
    exact decide_eq_decide.mpr ⟨fun h e => h (congrArg some e), fun h e => h (Option.some.inj e)⟩
  unfold codeF
  rw [if_pos hv, hb.e3, hb.e4, hb.e5, e0]
  have eg : ∀ (x : BoxS × ToldS), x.1.ajar = true → goAway true "taken" "gone" [] [] x = ({ x.1 with ajar := false }, { x.2 with moments := x.2.moments ++ [("taken" : Str)] }) := fun x h => by
    unfold goAway
    rw [if_pos h, if_pos rfl, e0]
  have ew : ∀ (c : Bool) (x : BoxS) (U : ToldS), addW c "empty" (x, U) = (x, { U with wrongs := U.wrongs ++ (if c = true then [("empty" : Str)] else []) }) := fun c x U => by
    unfold addW
    cases c with
    | true => rfl
    | false =>
      rw [if_neg Bool.false_ne_true, if_neg Bool.false_ne_true, List.append_nil]
  obtain ⟨aj, ii, tf, va, ag, la, sn, sv⟩ := S
  cases t with
  | false =>
    have et : ∀ x : BoxS × ToldS, takeIf p false x = x := fun x => by
      unfold takeIf
      rw [if_neg (fun z => Bool.false_ne_true z.1)]
    rw [et, ew, eg _ rfl]
    exact ⟨_, rfl⟩
  | true =>
    have et : ∀ x : BoxS × ToldS, x.1.ajar = true → takeIf p true x = letTake (some p) x := fun x h => by
      unfold takeIf
      rw [if_pos ⟨rfl, h⟩]
    rw [et _ rfl]
    unfold letTake
    rw [ew, eg _ rfl]
    refine ⟨[("opened" : Str), "taken"], ?_⟩
    show (_, ToldS.mk [] true ii ((if ii.any (fun q => decide (some q ≠ some p)) = true then [] ++ [("wrong" : Str)] else []) ++ _) _) = (_, ToldS.mk _ _ _ ((if ii.any (fun q => decide (q ≠ p)) = true then _ else _) ++ _) _)
    rw [eany]
    rfl
theorem code25n {rb : List RuleL} {p : Int} {t s : Bool} {S : BoxS} (hv : p ∉ S.valid) : codeF rb p t s S = (S, ⟨[], false, [], if (decide (p ∈ S.inside) && decide (p ∈ S.sent)) = true then [("refused" : Str)] else [], []⟩) := by
  unfold codeF
  rw [if_neg hv]
  unfold addW
  cases (decide (p ∈ S.inside) && decide (p ∈ S.sent)) <;> rfl
end K25

namespace K25
open PySem PySem.Spec PyProof.Rows L2 My StX
section
variable {P : Program} {w : World} {K : PySem.W.Frag} {mg : Str → Option Value} {base : Heap}
def sp_law_act (K : PySem.W.Frag) : Sp := fun vs H Q _ => ∃ (a : Addr) (n : Nat) (b : Nat), vs = [.ref a, .int (b : Int)] ∧ SpringAt H a n ∧ n < 2 ^ 99 ∧ (b : Int) ≤ 1000 ∧
  ∀ (H' : Hp) (t : Addr) (x : Deed), But [a] H H' → SpringAt H' a (n + 4) → DeedAt K H' (.ref t) x → ((∃ l, x = .bring l true) ∨ x = .power ∨ x = .day ∨ (∃ p tk, x = .code p tk true ∧ 1 ≤ p ∧ p ≤ (b : Int))) → Q (.ref t) H'
set_option maxHeartbeats 2000000 in
theorem ok_law_act (T : Txt K mg) {fd : FuncData} (F : FunD K d_law_act.name d_law_act.qual d_law_act.params d_law_act.body d_law_act.scope (d_law_act.dvs K) (d_law_act.kws K) (He.fAd K d_law_act.at_) fd) : FnOk P w K mg base C8.CX0 2 (He.fAd K d_law_act.at_) fd ["spring", "brought"] (sp_law_act K) := by
  have c_law_drop := c_law_drop (P := P) (w := w) (base := base) T
  refine F.ok sc_law_act (fun vs H Q E h => ?_) (fun cdv A outer s H vs Q E hr h => ?_)
  · obtain ⟨a, n, b, rfl, _⟩ := h
    rfl
  · have hu := L2.hu_of hr
    obtain ⟨a, n, b, rfl, sp, hn, hb, q⟩ := h
    refine ⟨_, (PSs.nox ((pss_cons (ps_set (i := 2) sc_law_act.nd rfl (by first | exact Or.inl rfl | exact Or.inr rfl) (C8.pe_c c_law_drop hr (by decide) rfl (pa_cons (pv 0) (pa_cons pe_int pa_nil))))
  (pss_cons (ps_if (PW.pt (pw_or (pt_cmpR op_lt (pv 2) pe_int (nomark _)) (pw_or1 (pt_cmpR op_eq (pv 1) pe_int (nomark _)))))
  (pss_cons (ps_par (i := 3) (j := 4) (by rfl) sc_law_act.nd rfl rfl (by decide) rfl rfl (pa_cons (pe_cmpR op_gt (C8.pe_c c_law_drop hr (by decide) rfl (pa_cons (pv 0) (pa_cons pe_int pa_nil))) pe_int (nomark _)) (pa_cons (C8.pe_c c_law_drop hr (by decide) rfl (pa_cons (pv 0) (pa_cons pe_int pa_nil))) pa_nil)) (by rfl))
  (pss_one (ps_ret (pe_ix (My.ix_listK (K := K) rfl) (pe_lst (pa_cons (pe_tup (pa_cons pe_str (pa_cons (pv 3) (pa_cons pe_bl pa_nil)))) (pa_cons (pe_tup (pa_cons pe_str pa_nil)) (pa_cons (pe_tup (pa_cons pe_str pa_nil)) (pa_cons (pe_tup (pa_cons pe_str (pa_cons (pv 3) (pa_cons pe_bl pa_nil)))) (pa_cons (pe_tup (pa_cons pe_str (pa_cons (pv 3) (pa_cons pe_bl pa_nil)))) pa_nil)))))) (pv 4) (fun _ _ => rfl)))))
  pss_nil)
  (pss_cons (ps_if (pt_cmpR op_lt (pv 2) pe_int (nomark _))
  (pss_cons (ps_set (i := 5) sc_law_act.nd rfl (by first | exact Or.inl rfl | exact Or.inr rfl) (C8.pe_c c_law_drop hr (by decide) rfl (pa_cons (pv 0) (pa_cons (pe_ix (My.ix_listK (K := K) rfl) (pe_lst (pa_cons pe_int (pa_cons (pv 1) pa_nil))) (C8.pe_c c_law_drop hr (by decide) rfl (pa_cons (pv 0) (pa_cons pe_int pa_nil))) (fun _ _ => rfl)) pa_nil))))
  (pss_one (ps_ret (pe_tup (pa_cons pe_str (pa_cons (pe_callB (call_max2 rfl) (by rfl) T.max (by decide +kernel) (pa_cons pe_int (pa_cons (pe_op op_sub (pv 1) (pv 5)) pa_nil))) (pa_cons (pe_cmpR op_eq (C8.pe_c c_law_drop hr (by decide) rfl (pa_cons (pv 0) (pa_cons pe_int pa_nil))) pe_int (nomark _)) (pa_cons pe_bl pa_nil))))))))
  pss_nil)
  (pss_one (ps_ret (pe_ix (My.ix_listK (K := K) rfl) (pe_lst (pa_cons (pe_tup (pa_cons pe_str pa_nil)) (pa_cons (pe_tup (pa_cons pe_str pa_nil)) (pa_cons (pe_tup (pa_cons pe_str pa_nil)) pa_nil)))) (pe_op op_sub (pv 2) pe_int) (fun _ _ => rfl))))))))), ?_⟩
    have lt100 : ∀ m : Nat, m ≤ n + 5 → m < 2 ^ 100 := fun m h => by
      have e : (2 : Nat) ^ 100 = 2 ^ 99 + 2 ^ 99 := by decide
      have e2 : 5 < (2 : Nat) ^ 99 := by decide
      omega
    have ei : ∀ x y : Int, decide (V.int x = V.int y) = decide (x = y) := fun x y => decide_eq_decide.mpr ⟨fun z => V.int.inj z, fun z => congrArg V.int z⟩
    refine ⟨_, rfl, a, n, 8, rfl, sp, lt100 _ (by omega), by decide, by decide, fun H2 w b2 s2 w0 w1 => ?_⟩
    have T1 : ∀ Q' : Bool → Hp → Prop, Q' (decide (w < 2) || decide ((b : Int) = 0)) H2 → (tOr (tTest (tOp (rI0 fun i j => V.bl (decide (i < j))) (tVar 2) (tC (V.int 2)))) (tTest (tOp rEq (tVar 1) (tC (V.int 0))))) [some (.ref a), some (.int (b : Int)), some (.int w), none, none, none] H2 Q' := by
      intro Q' q'
      refine ⟨_, rfl, _, _, rfl, rfl, _, rfl, ?_⟩
      cases c0 : decide (w < 2) with
      | true => rw [c0] at q'; exact q'
      | false =>
        rw [c0, Bool.false_or] at q'
        refine ⟨_, rfl, rfl, _, rfl, ?_⟩
        rw [ei]
        exact q'
    refine T1 _ ?_
    clear T1
    cases hc : (decide (w < 2) || decide ((b : Int) = 0)) with
    | true =>
      refine ⟨_, rfl, a, n + 1, 4, rfl, s2, lt100 _ (by omega), by decide, by decide, fun H3 k3 b3 s3 k30 k31 => ⟨_, _, rfl, rfl, _, rfl, a, n + 2, 5, rfl, s3, lt100 _ (by omega), by decide, by decide, fun H4 k4 b4 s4 k40 k41 => ⟨_, _, rfl, ?_⟩⟩⟩
      obtain ⟨lb, hlb⟩ : ∃ lb, decide ((0 : Int) < k3) = lb := ⟨_, rfl⟩
      show Ends.nx _ [some (.ref a), some (.int (b : Int)), some (.int w), some (.bl (decide ((0 : Int) < k3))), some (.int k4), none] H4
      rw [hlb]
      refine ⟨_, rfl, by show 3 ≤ sizeLine; decide, fun t1 h1 => ⟨by show 1 ≤ sizeLine; decide, fun t2 h2 => ⟨by show 1 ≤ sizeLine; decide, fun t3 h3 => ⟨_, rfl, by show 3 ≤ sizeLine; decide, fun t4 h4 => ⟨_, rfl, by show 3 ≤ sizeLine; decide, fun t5 h5 => ⟨by show 5 ≤ sizeLine; decide, fun L hL => ?_⟩⟩⟩⟩⟩⟩
      have x1 := same_new (o := .tup [.str "bring", .bl lb, .bl true]) h1
      have x2 := same_new (o := .tup [.str "power"]) h2
      have x3 := same_new (o := .tup [.str "day"]) h3
      have x4 := same_new (o := .tup [.str "bring", .bl lb, .bl true]) h4
      have x5 := same_new (o := .tup [.str "bring", .bl lb, .bl true]) h5
      have x6 := same_new (o := .lst [.ref t1, .ref t2, .ref t3, .ref t4, .ref t5]) hL
      have x56 := x5.trans x6
      have x46 := x4.trans x56
      have x36 := x3.trans x46
      have x26 := x2.trans x36
      have x16 := x1.trans x26
      have bb : But [a] H _ := (((b2.trans b3).trans b4).trans (But.of x16))
      have ss := (s4.same x16).mono (show n + 3 ≤ n + 4 by omega)
      obtain e | e | e | e | e : k4 = ((0 : Nat) : Int) ∨ k4 = ((1 : Nat) : Int) ∨ k4 = ((2 : Nat) : Int) ∨ k4 = ((3 : Nat) : Int) ∨ k4 = ((4 : Nat) : Int) := by omega
      · exact ⟨_, rfl, L, _, k4, .ref t1, rfl, rfl, SqL.of upd_same, by rw [e]; exact atI_nat rfl, q _ t1 (.bring lb true) bb ss ⟨t1, rfl, SqT.of (x26 _ _ upd_same)⟩ (.inl ⟨lb, rfl⟩)⟩
      · exact ⟨_, rfl, L, _, k4, .ref t2, rfl, rfl, SqL.of upd_same, by rw [e]; exact atI_nat rfl, q _ t2 .power bb ss ⟨t2, rfl, SqT.of (x36 _ _ upd_same)⟩ (.inr (.inl rfl))⟩
      · exact ⟨_, rfl, L, _, k4, .ref t3, rfl, rfl, SqL.of upd_same, by rw [e]; exact atI_nat rfl, q _ t3 .day bb ss ⟨t3, rfl, SqT.of (x46 _ _ upd_same)⟩ (.inr (.inr (.inl rfl)))⟩
      · exact ⟨_, rfl, L, _, k4, .ref t4, rfl, rfl, SqL.of upd_same, by rw [e]; exact atI_nat rfl, q _ t4 (.bring lb true) bb ss ⟨t4, rfl, SqT.of (x56 _ _ upd_same)⟩ (.inl ⟨lb, rfl⟩)⟩
      · exact ⟨_, rfl, L, _, k4, .ref t5, rfl, rfl, SqL.of upd_same, by rw [e]; exact atI_nat rfl, q _ t5 (.bring lb true) bb ss ⟨t5, rfl, SqT.of (x6 _ _ upd_same)⟩ (.inl ⟨lb, rfl⟩)⟩
    | false =>
      have hw2 : 2 ≤ w := by
        cases h : decide (w < 2) with
        | true => rw [h] at hc; cases hc
        | false => have := of_decide_eq_false h; omega
      have hb1 : 1 ≤ (b : Int) := by
        cases h : decide ((b : Int) = 0) with
        | true => rw [h, Bool.or_true] at hc; cases hc
        | false => have := of_decide_eq_false h; omega
      refine ⟨_, rfl, _, _, rfl, rfl, _, rfl, ?_⟩
      by_cases hw5 : w < 5
      · rw [decide_eq_true hw5]
        refine ⟨_, rfl, _, rfl, by show 2 ≤ sizeLine; decide, fun l hl => ?_⟩
        have y1 := same_new (o := .lst [.int 2, .int (b : Int)]) hl
        obtain ⟨_, _, _, ha2, _⟩ := id s2
        have nal : l ∉ [a] := by simpa using (ne_of_none ha2 hl).symm
        refine ⟨_, rfl, a, n + 1, 2, rfl, s2.same y1, lt100 _ (by omega), by decide, by decide, fun H3 k3 b3 s3 k30 k31 => ?_⟩
        have hl3 := b3 _ _ nal (upd_same : upd H2 l (.lst [.int 2, .int (b : Int)]) l = _)
        obtain ⟨v, hv, hv0, hv1⟩ : ∃ v : Int, atI [V.int 2, V.int (b : Int)] k3 = some (.int v) ∧ 0 < v ∧ v ≤ 1000 := by
          obtain e | e : k3 = ((0 : Nat) : Int) ∨ k3 = ((1 : Nat) : Int) := by omega
          · exact ⟨2, by rw [e]; exact atI_nat rfl, by decide, by decide⟩
          · exact ⟨b, by rw [e]; exact atI_nat rfl, by omega, hb⟩
        refine ⟨l, _, k3, _, rfl, rfl, SqL.of hl3, hv, a, n + 2, v, rfl, s3, lt100 _ (by omega), hv0, Int.lt_of_le_of_lt hv1 (by decide), fun H4 k4 b4 s4 k40 k41 => ?_⟩
        refine ⟨_, rfl, _, rfl, _, _, rfl, rfl, _, _, rfl, _, rfl, a, n + 3, 3, rfl, s4, lt100 _ (by omega), by decide, by decide, fun H5 k5 b5 s5 k50 k51 => ⟨rfl, by show 4 ≤ sizeLine; decide, fun t ht => ?_⟩⟩
        have hp : 1 ≤ (if (b : Int) - k4 > 1 then (b : Int) - k4 else 1) ∧ (if (b : Int) - k4 > 1 then (b : Int) - k4 else 1) ≤ (b : Int) := by split <;> omega
        have y2 := same_new (o := .tup [.str "code", .int (if (b : Int) - k4 > 1 then (b : Int) - k4 else 1), .bl (decide (V.int k5 = V.int 0)), .bl true]) ht
        exact q _ t (.code (if (b : Int) - k4 > 1 then (b : Int) - k4 else 1) (decide (V.int k5 = V.int 0)) true) (((((b2.trans (But.of y1)).trans b3).trans b4).trans b5).trans (But.of y2)) (s5.same y2) ⟨t, rfl, SqT.of upd_same⟩ (.inr (.inr (.inr ⟨_, _, rfl, hp.1, hp.2⟩)))
      · rw [decide_eq_false hw5]
        refine ⟨by show 1 ≤ sizeLine; decide, fun t1 h1 => ⟨by show 1 ≤ sizeLine; decide, fun t2 h2 => ⟨by show 1 ≤ sizeLine; decide, fun t3 h3 => ⟨by show 3 ≤ sizeLine; decide, fun L hL => ?_⟩⟩⟩⟩
        have x1 := same_new (o := .tup [.str "power"]) h1
        have x2 := same_new (o := .tup [.str "day"]) h2
        have x3 := same_new (o := .tup [.str "day"]) h3
        have x4 := same_new (o := .lst [.ref t1, .ref t2, .ref t3]) hL
        have x34 := x3.trans x4
        have x24 := x2.trans x34
        have x14 := x1.trans x24
        have bb : But [a] H _ := b2.trans (But.of x14)
        have ss := (s2.same x14).mono (show n + 1 ≤ n + 4 by omega)
        obtain e | e | e : w - 5 = ((0 : Nat) : Int) ∨ w - 5 = ((1 : Nat) : Int) ∨ w - 5 = ((2 : Nat) : Int) := by omega
        · exact ⟨_, rfl, _, _, rfl, rfl, L, _, w - 5, .ref t1, rfl, rfl, SqL.of upd_same, by rw [e]; exact atI_nat rfl, q _ t1 .power bb ss ⟨t1, rfl, SqT.of (x24 _ _ upd_same)⟩ (.inr (.inl rfl))⟩
        · exact ⟨_, rfl, _, _, rfl, rfl, L, _, w - 5, .ref t2, rfl, rfl, SqL.of upd_same, by rw [e]; exact atI_nat rfl, q _ t2 .day bb ss ⟨t2, rfl, SqT.of (x34 _ _ upd_same)⟩ (.inr (.inr (.inl rfl)))⟩
        · exact ⟨_, rfl, _, _, rfl, rfl, L, _, w - 5, .ref t3, rfl, rfl, SqL.of upd_same, by rw [e]; exact atI_nat rfl, q _ t3 .day bb ss ⟨t3, rfl, SqT.of (x4 _ _ upd_same)⟩ (.inr (.inr (.inl rfl)))⟩
theorem c_law_act (T : Txt K mg) : C8.Cal P w K mg base 2 "_law_act" (sp_law_act K) [] := by
  obtain ⟨fd, F⟩ := T.f_law_act
  exact ⟨_, fd, _, _, ok_law_act T F, T.g_law_act, F.kp, F.bindsN (fun _ _ _ _ _ _ us hl => match us, hl with | [_, _], _ => rfl), .nil⟩
end
end K25

namespace K25
open PySem PySem.Spec PyProof.Rows L2 My StX
/-- what stands in the law's own walk: reports, faults, a list of three lists -/
structure Db (K : PySem.W.Frag) (H H' : Hp) (F Wl bx i0 i1 i2 sn : Addr) (inn val had snt : List Int) (zs : List (Addr × Addr × Addr)) (Us : List ToldS) (ws : List Addr) (wl : List (Str × Nat)) : Prop where
  s : Same H H'
  F0 : H F = none
  W0 : H Wl = none
  B0 : H bx = none
  hF : H' F = some (.lst (zs.map fun z => V.ref z.1))
  hz : Paired (ItAt H') zs Us
  zn : ∀ z ∈ zs, z.2.1 ∉ [F, Wl, bx] ∧ z.2.2 ∉ [F, Wl, bx]
  hW : H' Wl = some (.lst (ws.map V.ref))
  hw : Paired (FItAt H') ws wl
  hb : H' bx = some (.lst [.ref i0, .ref i1, .ref i2])
  h0 : H' i0 = some (.lst (inn.map V.int))
  h1 : H' i1 = some (.lst (val.map V.int))
  h2 : H' i2 = some (.lst (had.map V.int))
  hs : H' sn = some (.lst (snt.map V.int))
  ni : ∀ c ∈ [i0, i1, i2, sn], c ∉ [F, Wl, bx]
  nd : F ≠ Wl ∧ F ≠ bx ∧ Wl ≠ bx
section
variable {K : PySem.W.Frag} {H H' H2 : Hp} {F Wl bx i0 i1 i2 sn j : Addr} {inn val had snt new : List Int} {zs : List (Addr × Addr × Addr)} {Us : List ToldS} {ws : List Addr} {wl : List (Str × Nat)}
theorem n3 {c : Addr} (h : c ∉ [F, Wl, bx]) : c ≠ F ∧ c ≠ Wl ∧ c ≠ bx := by
  simp only [List.mem_cons, List.not_mem_nil, or_false, not_or] at h
  exact h
theorem m3 {c : Addr} (h1 : c ≠ F) (h2 : c ≠ Wl) (h3 : c ≠ bx) : c ∉ [F, Wl, bx] := by
  simp only [List.mem_cons, List.not_mem_nil, or_false, not_or]
  exact ⟨h1, h2, h3⟩
theorem it_at {z : Addr × Addr × Addr} {U : ToldS} {a : Addr} {l : List V} {o : HO} (hh : ItAt H' z U) (ha : H' a = some (.lst l)) (n1 : z.2.1 ≠ a) (n2 : z.2.2 ≠ a) : ItAt (upd H' a o) z U := ⟨(upd_ne (ne_of hh.1 ha (fun e => by cases e))).trans hh.1, (upd_ne n1).trans hh.2.1, (upd_ne n2).trans hh.2.2⟩
theorem Db.fresh {c : Addr} (h : Db K H H' F Wl bx i0 i1 i2 sn inn val had snt zs Us ws wl) (hc : H' c = none) : c ∉ [F, Wl, bx] := m3 (ne_of_none h.hF hc).symm (ne_of_none h.hW hc).symm (ne_of_none h.hb hc).symm
theorem Db.same (h : Db K H H' F Wl bx i0 i1 i2 sn inn val had snt zs Us ws wl) (s : Same H' H2) : Db K H H2 F Wl bx i0 i1 i2 sn inn val had snt zs Us ws wl :=
  ⟨h.s.trans s, h.F0, h.W0, h.B0, s _ _ h.hF, paired_map (fun _ _ _ hh => hh.same s) h.hz, h.zn, s _ _ h.hW, paired_map (fun _ _ _ hh => s _ _ hh) h.hw, s _ _ h.hb, s _ _ h.h0, s _ _ h.h1, s _ _ h.h2, s _ _ h.hs, h.ni, h.nd⟩
theorem Db.found {z : Addr × Addr × Addr} {U : ToldS} (h : Db K H H' F Wl bx i0 i1 i2 sn inn val had snt zs Us ws wl) (hz : ItAt H' z U) (n1 : z.2.1 ∉ [F, Wl, bx]) (n2 : z.2.2 ∉ [F, Wl, bx]) : Db K H (upd H' F (.lst ((zs.map fun z => V.ref z.1) ++ [.ref z.1]))) F Wl bx i0 i1 i2 sn inn val had snt (zs ++ [z]) (Us ++ [U]) ws wl :=
  ⟨same_upd h.s h.F0, h.F0, h.W0, h.B0, by rw [upd_same, List.map_append]; rfl, Paired.snoc (paired_map (fun y _ hy hh => it_at hh h.hF (n3 (h.zn y hy).1).1 (n3 (h.zn y hy).2).1) h.hz) (it_at hz h.hF (n3 n1).1 (n3 n2).1), fun y hy => by
    rcases List.mem_append.mp hy with hy | hy
    · exact h.zn y hy
    · rw [List.mem_singleton.mp hy]; exact ⟨n1, n2⟩, (upd_ne h.nd.1.symm).trans h.hW, paired_map (fun t x _ (hh : FItAt H' t x) => (upd_ne (ne_of hh h.hF (fun e => by cases e))).trans hh) h.hw, (upd_ne h.nd.2.1.symm).trans h.hb, (upd_ne (n3 (h.ni _ (by simp))).1).trans h.h0, (upd_ne (n3 (h.ni _ (by simp))).1).trans h.h1, (upd_ne (n3 (h.ni _ (by simp))).1).trans h.h2, (upd_ne (n3 (h.ni _ (by simp))).1).trans h.hs, h.ni, h.nd⟩
theorem Db.wrong {t : Addr} {x : Str × Nat} (h : Db K H H' F Wl bx i0 i1 i2 sn inn val had snt zs Us ws wl) (ht : FItAt H' t x) : Db K H (upd H' Wl (.lst (ws.map V.ref ++ [.ref t]))) F Wl bx i0 i1 i2 sn inn val had snt zs Us (ws ++ [t]) (wl ++ [x]) :=
  ⟨same_upd h.s h.W0, h.F0, h.W0, h.B0, (upd_ne h.nd.1).trans h.hF, paired_map (fun y _ hy hh => it_at hh h.hW (n3 (h.zn y hy).1).2.1 (n3 (h.zn y hy).2).2.1) h.hz, h.zn, by rw [upd_same, List.map_append]; rfl, Paired.snoc (paired_map (fun t x _ (hh : FItAt H' t x) => (upd_ne (ne_of hh h.hW (fun e => by cases e))).trans hh) h.hw) ((upd_ne (ne_of ht h.hW (fun e => by cases e))).trans ht), (upd_ne h.nd.2.2.symm).trans h.hb, (upd_ne (n3 (h.ni _ (by simp))).2.1).trans h.h0, (upd_ne (n3 (h.ni _ (by simp))).2.1).trans h.h1, (upd_ne (n3 (h.ni _ (by simp))).2.1).trans h.h2, (upd_ne (n3 (h.ni _ (by simp))).2.1).trans h.hs, h.ni, h.nd⟩
/-- other lists in the box -/
theorem Db.box {k0 k1 k2 : Addr} {n0 n1 n2 : List Int} (h : Db K H H' F Wl bx i0 i1 i2 sn inn val had snt zs Us ws wl) (e0 : H' k0 = some (.lst (n0.map V.int))) (e1 : H' k1 = some (.lst (n1.map V.int))) (e2 : H' k2 = some (.lst (n2.map V.int))) (c0 : k0 ∉ [F, Wl, bx]) (c1 : k1 ∉ [F, Wl, bx]) (c2 : k2 ∉ [F, Wl, bx]) :
    Db K H (upd H' bx (.lst [.ref k0, .ref k1, .ref k2])) F Wl bx k0 k1 k2 sn n0 n1 n2 snt zs Us ws wl :=
  ⟨same_upd h.s h.B0, h.F0, h.W0, h.B0, (upd_ne h.nd.2.1).trans h.hF, paired_map (fun y _ hy hh => it_at hh h.hb (n3 (h.zn y hy).1).2.2 (n3 (h.zn y hy).2).2.2) h.hz, h.zn, (upd_ne h.nd.2.2).trans h.hW, paired_map (fun t x _ (hh : FItAt H' t x) => (upd_ne (ne_of hh h.hb (fun e => by cases e))).trans hh) h.hw, upd_same, (upd_ne (n3 c0).2.2).trans e0, (upd_ne (n3 c1).2.2).trans e1, (upd_ne (n3 c2).2.2).trans e2, (upd_ne (n3 (h.ni _ (by simp))).2.2).trans h.hs, fun c hc => by
    simp only [List.mem_cons, List.not_mem_nil, or_false] at hc
    rcases hc with rfl | rfl | rfl | rfl
    · exact c0
    · exact c1
    · exact c2
    · exact h.ni _ (by simp), h.nd⟩
theorem Db.snd {s2 : Addr} {n2 : List Int} (h : Db K H H' F Wl bx i0 i1 i2 sn inn val had snt zs Us ws wl) (e : H' s2 = some (.lst (n2.map V.int))) (c : s2 ∉ [F, Wl, bx]) : Db K H H' F Wl bx i0 i1 i2 s2 inn val had n2 zs Us ws wl :=
  ⟨h.s, h.F0, h.W0, h.B0, h.hF, h.hz, h.zn, h.hW, h.hw, h.hb, h.h0, h.h1, h.h2, e, fun d hd => by
    simp only [List.mem_cons, List.not_mem_nil, or_false] at hd
    rcases hd with rfl | rfl | rfl | rfl
    · exact h.ni _ (by simp)
    · exact h.ni _ (by simp)
    · exact h.ni _ (by simp)
    · exact c, h.nd⟩
end
theorem any_filt : ∀ (gs : List Int) (own : Int), (!(gs.filter fun q => decide (q ≠ own)).isEmpty) = gs.any (fun q => decide (q ≠ own))
  | [], _ => rfl
  | y :: l, own => by
    rw [List.filter_cons, List.any_cons]
    cases decide (y ≠ own) with
    | true => rfl
    | false => rw [if_neg Bool.false_ne_true, Bool.false_or]; exact any_filt l own
/-- what the law says of a code -/
def cGot (p : Int) (t : Bool) (inn val : List Int) : List Int := if p ∈ val then (if t = true then inn else []) else []
def cWr (p : Int) (t : Bool) (inn val had snt : List Int) : List Str :=
  if p ∈ val then (if (if t = true then inn else []).any (fun q => decide (q ≠ p)) = true then [("wrong" : Str)] else []) ++ (if (!decide (p ∈ inn) && !decide (p ∈ had)) = true then [("empty" : Str)] else [])
  else (if (decide (p ∈ inn) && decide (p ∈ snt)) = true then [("refused" : Str)] else [])
def cInn (p : Int) (t : Bool) (inn val : List Int) : List Int := if p ∈ val then (if t = true then [] else inn) else inn
section
variable {P : Program} {w : World} {K : PySem.W.Frag} {mg : Str → Option Value} {base : Heap}
def sp_law_code (K : PySem.W.Frag) : Sp := fun vs H Q _ => ∃ (H0 : Hp) (ai : Addr) (p : Int) (t : Bool) (k : Nat) (F Wl bx i0 i1 i2 sn : Addr) (inn val had snt : List Int) (zs : List (Addr × Addr × Addr)) (Us : List ToldS) (ws : List Addr) (wl : List (Str × Nat)), vs = [.ref ai, .int (k : Int), .ref bx, .ref sn, .ref Wl] ∧
  SqT K H0 ai [.str "code", .int p, .bl t, .bl true] ∧ Db K H0 H F Wl bx i0 i1 i2 sn inn val had snt zs Us ws wl ∧ ws.length ≤ 1000 ∧ inn.length ≤ 4000 ∧ had.length ≤ 600000 ∧
  ∀ (H' : Hp) (r f1 f2 j0 j2 : Addr) (ws' : List Addr), Db K H0 H' F Wl bx j0 i1 j2 sn (cInn p t inn val) val (had ++ (cGot p t inn val).filter (fun q => decide (q = p))) snt zs Us ws' (wl ++ (cWr p t inn val had snt).map fun x => (x, k)) → H' r = some (.tup [.ref f1, .bl (decide (p ∈ val)), .ref f2]) → H' f1 = some (.lst []) → H' f2 = some (.lst ((cGot p t inn val).map V.int)) → f1 ∉ [F, Wl, bx] → f2 ∉ [F, Wl, bx] → Q (.ref r) H'
set_option maxHeartbeats 2000000 in
theorem ok_law_code (T : Txt K mg) {fd : FuncData} (F : FunD K d_law_code.name d_law_code.qual d_law_code.params d_law_code.body d_law_code.scope (d_law_code.dvs K) (d_law_code.kws K) (He.fAd K d_law_code.at_) fd) : FnOk P w K mg base C8.CX0 1 (He.fAd K d_law_code.at_) fd ["act", "k", "box", "sent", "wrong"] (sp_law_code K) := by
  refine F.ok sc_law_code (fun vs H Q E h => ?_) (fun cdv A outer s H vs Q E hr h => ?_)
  · obtain ⟨H0, ai, p, t, k, F, Wl, bx, i0, i1, i2, sn, inn, val, had, snt, zs, Us, ws, wl, rfl, _⟩ := h
    rfl
  · have hu := L2.hu_of hr
    obtain ⟨H0, ai, p, t, k, F, Wl, bx, i0, i1, i2, sn, inn, val, had, snt, zs, Us, ws, wl, rfl, hT0, db, hwl, hil, hhl, q⟩ := h
    refine ⟨_, (PSs.nox ((pss_cons (ps_if (pt_cmpR (My.notIn_seqK (K := K) rfl) (pe_ix (My.ix_tupK (K := K) rfl) (pv 0) pe_int (fun _ _ => rfl)) (pe_ix (My.ix_listK (K := K) rfl) (pv 2) pe_int (fun _ _ => rfl)) (by rfl))
  (pss_cons (ps_if (PW.pt (pw_and (pt_cmpR (My.in_seqK (K := K) rfl) (pe_ix (My.ix_tupK (K := K) rfl) (pv 0) pe_int (fun _ _ => rfl)) (pe_ix (My.ix_listK (K := K) rfl) (pv 2) pe_int (fun _ _ => rfl)) (by rfl)) (pw_and1 (pt_cmpR (My.in_seqK (K := K) rfl) (pe_ix (My.ix_tupK (K := K) rfl) (pv 0) pe_int (fun _ _ => rfl)) (pv 3) (by rfl)))))
  (pss_one (ps_expr (My.pe_bmK (K := K) rfl PySem.F.plainAttrs_list PySem.F.slot_list_append PySem.F.type_list_append mt_append (pv 4) (pa_cons (pe_tup (pa_cons pe_str (pa_cons (pv 1) pa_nil))) pa_nil))))
  pss_nil)
  (pss_one (ps_ret (pe_tup (pa_cons (pe_lst pa_nil) (pa_cons pe_bl (pa_cons (pe_lst pa_nil) pa_nil)))))))
  pss_nil)
  (pss_cons (ps_set (i := 5) sc_law_code.nd rfl (by first | exact Or.inl rfl | exact Or.inr rfl) (pe_ifExp (pt_val (pe_ix (My.ix_tupK (K := K) rfl) (pv 0) pe_int (fun _ _ => rfl))) (pe_ix (My.ix_listK (K := K) rfl) (pv 2) pe_int (fun _ _ => rfl)) (pe_lst pa_nil)))
  (pss_cons (ps_if (pt_cmpR (My.neDK (K := K) rfl hr.units) (pe_lc (own := [("parcel", 6)]) (g := (gName 6)) (by rfl) sc_law_code.nd (My.pi_listK (K := K) rfl (pv 5)) (blkOk_by (N := N_law_code) (sc := defScope s_law_code) (by decide +kernel)) (fun _ _ _ _ _ => (pg_name (i := 6) sc_law_code.nd rfl (by first | exact Or.inl rfl | exact Or.inr rfl))) (fun _ _ _ _ _ => (pts_one (pt_cmpR op_ne (pv 6) (pe_ix (My.ix_tupK (K := K) rfl) (pv 0) pe_int (fun _ _ => rfl)) (nomark _)))) (fun _ _ _ _ _ => (pv 6))) (pe_lst pa_nil) (nomark _))
  (pss_one (ps_expr (My.pe_bmK (K := K) rfl PySem.F.plainAttrs_list PySem.F.slot_list_append PySem.F.type_list_append mt_append (pv 4) (pa_cons (pe_tup (pa_cons pe_str (pa_cons (pv 1) pa_nil))) pa_nil))))
  pss_nil)
  (pss_cons (ps_if (PW.pt (pw_and (pt_cmpR (My.notIn_seqK (K := K) rfl) (pe_ix (My.ix_tupK (K := K) rfl) (pv 0) pe_int (fun _ _ => rfl)) (pe_ix (My.ix_listK (K := K) rfl) (pv 2) pe_int (fun _ _ => rfl)) (by rfl)) (pw_and1 (pt_cmpR (My.notIn_seqK (K := K) rfl) (pe_ix (My.ix_tupK (K := K) rfl) (pv 0) pe_int (fun _ _ => rfl)) (pe_ix (My.ix_listK (K := K) rfl) (pv 2) pe_int (fun _ _ => rfl)) (by rfl)))))
  (pss_one (ps_expr (My.pe_bmK (K := K) rfl PySem.F.plainAttrs_list PySem.F.slot_list_append PySem.F.type_list_append mt_append (pv 4) (pa_cons (pe_tup (pa_cons pe_str (pa_cons (pv 1) pa_nil))) pa_nil))))
  pss_nil)
  (pss_cons (ps_if (pt_cmpR (My.neDK (K := K) rfl hr.units) (pv 5) (pe_lst pa_nil) (nomark _))
  (pss_cons (ps_asg (pe_lst pa_nil) (pg_sub (pv 2) pe_int set_list))
  (pss_one (ps_asg (pe_op op_cat (pe_ix (My.ix_listK (K := K) rfl) (pv 2) pe_int (fun _ _ => rfl)) (pe_lc (own := [("parcel", 6)]) (g := (gName 6)) (by rfl) sc_law_code.nd (My.pi_listK (K := K) rfl (pv 5)) (blkOk_by (N := N_law_code) (sc := defScope s_law_code) (by decide +kernel)) (fun _ _ _ _ _ => (pg_name (i := 6) sc_law_code.nd rfl (by first | exact Or.inl rfl | exact Or.inr rfl))) (fun _ _ _ _ _ => (pts_one (pt_cmpR op_eq (pv 6) (pe_ix (My.ix_tupK (K := K) rfl) (pv 0) pe_int (fun _ _ => rfl)) (nomark _)))) (fun _ _ _ _ _ => (pv 6)))) (pg_sub (pv 2) pe_int set_list))))
  pss_nil)
  (pss_one (ps_ret (pe_tup (pa_cons (pe_lst pa_nil) (pa_cons pe_bl (pa_cons (pe_callTy (My.list_ofK (K := K) rfl) (by rfl) T.list (by decide +kernel) (pa_cons (pv 5) pa_nil)) pa_nil))))))))))))), ?_⟩
    have hT := same_tup db.s hT0
    refine ⟨_, rfl, ai, _, 1, _, rfl, rfl, hT, rfl, _, rfl, bx, _, 1, _, rfl, rfl, SqL.of db.hb, rfl, i1, _, rfl, .inl (SqL.of db.h1), rfl, all_flat_int _, !decide (p ∈ val), by rw [inV_int]; rfl, ?_⟩
    by_cases hv : p ∈ val
    · have eG : cGot p t inn val = (if t = true then inn else []) := if_pos hv
      have eI : cInn p t inn val = (if t = true then [] else inn) := if_pos hv
      have eW : cWr p t inn val had snt = (if (if t = true then inn else []).any (fun q => decide (q ≠ p)) = true then [("wrong" : Str)] else []) ++ (if (!decide (p ∈ inn) && !decide (p ∈ had)) = true then [("empty" : Str)] else []) := if_pos hv
      rw [eG, eI, eW, decide_eq_true hv] at q
      rw [decide_eq_true hv]
      have hgl : (if t = true then inn else []).length ≤ 4000 := by
        cases t with
        | true => exact hil
        | false => exact Nat.zero_le _
      have u4 : ∀ (H5 : Hp) (ga j0 j2 : Addr) (ws5 : List Addr), Db K H0 H5 F Wl bx j0 i1 j2 sn (if t = true then [] else inn) val (had ++ (if t = true then inn else []).filter (fun q => decide (q = p))) snt zs Us ws5 (wl ++ ((if (if t = true then inn else []).any (fun q => decide (q ≠ p)) = true then [("wrong" : Str)] else []) ++ (if (!decide (p ∈ inn) && !decide (p ∈ had)) = true then [("empty" : Str)] else [])).map fun x => (x, k)) → H5 ga = some (.lst ((if t = true then inn else []).map V.int)) →
          (tRet (tTup (tCons (tLst tNil) (tCons (tC (V.bl true)) (tCons (tCB (rListOf K) (tCons (tVar 5) tNil)) tNil))))) { nx := fun x H' => Q V.non H', rt := Q } [some (.ref ai), some (.int (k : Int)), some (.ref bx), some (.ref sn), some (.ref Wl), some (.ref ga), none] H5 := by
        intro H5 ga j0 j2 ws5 db5 hga
        refine ⟨Nat.zero_le _, fun f1 hf1 => ⟨_, rfl, ga, _, rfl, .inl (SqL.of (same_new hf1 _ _ hga)), fun f2 hf2 => ⟨by show 3 ≤ sizeLine; decide, fun r hr => ?_⟩⟩⟩
        have y1 := same_new (o := .lst []) hf1
        have y2 := same_new (o := .lst ((if t = true then inn else []).map V.int)) hf2
        have y3 := same_new (o := .tup [.ref f1, .bl true, .ref f2]) hr
        have y23 := y2.trans y3
        exact q _ r f1 f2 j0 j2 ws5 (db5.same (y1.trans y23)) upd_same (y23 _ _ upd_same) (y3 _ _ upd_same) (db5.fresh hf1) ((db5.same y1).fresh hf2)
      have u3 : ∀ (H5 : Hp) (ga : Addr) (ws5 : List Addr), Db K H0 H5 F Wl bx i0 i1 i2 sn inn val had snt zs Us ws5 (wl ++ ((if (if t = true then inn else []).any (fun q => decide (q ≠ p)) = true then [("wrong" : Str)] else []) ++ (if (!decide (p ∈ inn) && !decide (p ∈ had)) = true then [("empty" : Str)] else [])).map fun x => (x, k)) → H5 ga = some (.lst ((if t = true then inn else []).map V.int)) → ga ∉ [F, Wl, bx] →
          (tSeq (tIfS (tTest (tOp (rNeD K) (tVar 5) (tLst tNil))) (tSeq (tAsg (tLst tNil) (gSub (tVar 2) (tC (V.int 0)) rSetL)) (tAsg (tOp rCat (tOp (rIxL K) (tVar 2) (tC (V.int 2))) (tLc (iList K (tVar 5)) (gName 6) (tTest (tOp rEq (tVar 6) (tOp (rIxT K) (tVar 0) (tC (V.int 1))))) (tVar 6) (List.map (fun x => x.snd) [(("parcel" : Str), 6)]))) (gSub (tVar 2) (tC (V.int 2)) rSetL))) tNext) (tRet (tTup (tCons (tLst tNil) (tCons (tC (V.bl true)) (tCons (tCB (rListOf K) (tCons (tVar 5) tNil)) tNil)))))) { nx := fun x H' => Q V.non H', rt := Q } [some (.ref ai), some (.int (k : Int)), some (.ref bx), some (.ref sn), some (.ref Wl), some (.ref ga), none] H5 := by
        intro H5 ga ws5 db5 hga nga
        refine ⟨_, rfl, Nat.zero_le _, fun e he => ?_⟩
        have x := same_new (o := .lst []) he
        refine ⟨.list ((if t = true then inn else []).map PyData.int), .list [], .lst (SqL.of (x _ _ hga)) (dp_flatInts K _ _), nilD upd_same, (sm_ints _).shaped (by decide), sm_nil.shaped (by decide), _, rfl, ?_⟩
        rw [eqv_nil]
        have db6 := db5.same x
        have hga6 := x _ _ hga
        generalize upd H5 e (.lst []) = H6 at db6 hga6
        cases hge : (if t = true then inn else []).isEmpty with
        | true =>
          have e1 : (if t = true then inn else []) = [] := List.isEmpty_iff.mp hge
          have e2 : (if t = true then [] else inn) = inn := by
            cases t with
            | true => exact e1.symm
            | false => rfl
          rw [e1, e2] at u4
          rw [e1] at hga6 db6
          exact u4 H6 ga i0 i2 ws5 (by rw [List.filter_nil, List.append_nil]; exact db6) hga6
        | false =>
          have et : t = true := by
            cases t with
            | true => rfl
            | false => cases hge
          subst et
          refine ⟨Nat.zero_le _, fun n0 hn0 => ⟨_, rfl, bx, _, 0, 0, rfl, rfl, same_new hn0 _ _ db6.hb, rfl, ?_⟩⟩
          have x2 := same_new (o := .lst []) hn0
          have db7 := (db6.same x2).box (k0 := n0) (k1 := i1) (k2 := i2) (n0 := []) upd_same (x2 _ _ db6.h1) (x2 _ _ db6.h2) (db6.fresh hn0) (db6.ni _ (by simp)) (db6.ni _ (by simp))
          have hga7 : upd (upd H6 n0 (.lst [])) bx (.lst [.ref n0, .ref i1, .ref i2]) ga = some (.lst (inn.map V.int)) := (upd_ne (n3 nga).2.2).trans (x2 _ _ hga6)
          show Ends.nx _ _ (upd (upd H6 n0 (.lst [])) bx (.lst [.ref n0, .ref i1, .ref i2]))
          generalize upd (upd H6 n0 (.lst [])) bx (.lst [.ref n0, .ref i1, .ref i2]) = H7 at db7 hga7
          refine ⟨_, rfl, bx, _, 2, _, rfl, rfl, SqL.of db7.hb, rfl, _, rfl, ga, rfl, ⟨_, SqL.of hga7⟩, fun G hG => ?_⟩
          refine lc_list (K := K) (a := ga) (xs := inn.map V.int) (fun j H' => Same H7 H' ∧ H' G = some (.lst (((inn.take j).filter fun q => decide (q = p)).map V.int))) ⟨same_new hG, upd_same⟩ (fun j H' _ y => SqL.of (y.1 _ _ hga7)) ?_ ?_
          · rintro j y H' hj ⟨s', hG'⟩
            obtain ⟨q1, hq1, rfl⟩ := map_get hj
            have hfl : ((inn.take j).filter fun q => decide (q = p)).length ≤ 10004 := Nat.le_trans (List.length_filter_le _ _) (by rw [List.length_take]; omega)
            refine ⟨rfl, _, rfl, _, rfl, ai, _, 1, _, rfl, rfl, same_tup s' (same_tup db7.s hT0), rfl, rfl, _, rfl, ?_⟩
            rw [take_more hq1, List.filter_append]
            by_cases e : q1 = p
            · have e2 : [q1].filter (fun q => decide (q = p)) = [q1] := by simp [e]
              rw [decide_eq_true (congrArg V.int e), e2]
              exact ⟨_, rfl, _, hG', by rw [List.length_map]; exact lt_line (by omega), same_upd s' hG, by rw [upd_same, List.map_append]; rfl⟩
            · have e2 : [q1].filter (fun q => decide (q = p)) = [] := by simp [e]
              rw [decide_eq_false (fun z => e (V.int.inj z)), e2, List.append_nil]
              exact ⟨s', hG'⟩
          rintro H8 ⟨s8, hG8⟩
          rw [List.length_map, List.take_length] at hG8
          have hfl : (inn.filter fun q => decide (q = p)).length ≤ 4000 := Nat.le_trans (List.length_filter_le _ _) hil
          have db8 := db7.same s8
          refine ⟨i2, G, _, _, rfl, rfl, db8.h2, hG8, by rw [List.length_map, List.length_map]; exact Nat.le_of_lt (lt_line (by omega)), fun n2 hn2 => ⟨_, rfl, bx, _, 2, 2, rfl, rfl, same_new hn2 _ _ db8.hb, rfl, ?_⟩⟩
          have x3 := same_new (o := .lst (had.map V.int ++ (inn.filter fun q => decide (q = p)).map V.int)) hn2
          have db9 := (db8.same x3).box (k0 := n0) (k1 := i1) (k2 := n2) (n2 := had ++ inn.filter fun q => decide (q = p)) (x3 _ _ db8.h0) (x3 _ _ db8.h1) (by rw [upd_same, List.map_append]) (db8.ni _ (by simp)) (db8.ni _ (by simp)) (db8.fresh hn2)
          exact u4 _ ga n0 n2 ws5 db9 ((upd_ne (n3 nga).2.2).trans ((s8.trans x3) _ _ hga7))
      have u2 : ∀ (H5 : Hp) (ga : Addr) (ws5 : List Addr), ws5.length ≤ 2000 → Db K H0 H5 F Wl bx i0 i1 i2 sn inn val had snt zs Us ws5 (wl ++ (if (if t = true then inn else []).any (fun q => decide (q ≠ p)) = true then [("wrong" : Str)] else []).map fun x => (x, k)) → H5 ga = some (.lst ((if t = true then inn else []).map V.int)) → ga ∉ [F, Wl, bx] →
          (tSeq (tIfS (tAnd (tTest (tOp (rIn K true) (tOp (rIxT K) (tVar 0) (tC (V.int 1))) (tOp (rIxL K) (tVar 2) (tC (V.int 0))))) (tTest (tOp (rIn K true) (tOp (rIxT K) (tVar 0) (tC (V.int 1))) (tOp (rIxL K) (tVar 2) (tC (V.int 2)))))) (tDrop (tBM K "list" rAppend (tVar 4) (tCons (tTup (tCons (tC (V.str "empty")) (tCons (tVar 1) tNil))) tNil))) tNext) (tSeq (tIfS (tTest (tOp (rNeD K) (tVar 5) (tLst tNil))) (tSeq (tAsg (tLst tNil) (gSub (tVar 2) (tC (V.int 0)) rSetL)) (tAsg (tOp rCat (tOp (rIxL K) (tVar 2) (tC (V.int 2))) (tLc (iList K (tVar 5)) (gName 6) (tTest (tOp rEq (tVar 6) (tOp (rIxT K) (tVar 0) (tC (V.int 1))))) (tVar 6) (List.map (fun x => x.snd) [(("parcel" : Str), 6)]))) (gSub (tVar 2) (tC (V.int 2)) rSetL))) tNext) (tRet (tTup (tCons (tLst tNil) (tCons (tC (V.bl true)) (tCons (tCB (rListOf K) (tCons (tVar 5) tNil)) tNil))))))) { nx := fun x H' => Q V.non H', rt := Q } [some (.ref ai), some (.int (k : Int)), some (.ref bx), some (.ref sn), some (.ref Wl), some (.ref ga), none] H5 := by
        intro H5 ga ws5 hw5 db5 hga nga
        have hT5 := same_tup db5.s hT0
        refine ⟨_, rfl, ai, _, 1, _, rfl, rfl, hT5, rfl, _, rfl, bx, _, 0, _, rfl, rfl, SqL.of db5.hb, rfl, i0, _, rfl, .inl (SqL.of db5.h0), rfl, all_flat_int _, !decide (p ∈ inn), by rw [inV_int]; rfl, ?_⟩
        cases hi : (!decide (p ∈ inn)) with
        | false =>
          rw [hi] at u3
          exact u3 H5 ga ws5 (by
            show Db K H0 H5 F Wl bx i0 i1 i2 sn inn val had snt zs Us ws5 (wl ++ (_ ++ []).map _)
            rw [List.append_nil]
            exact db5) hga nga
        | true =>
          rw [hi] at u3
          refine ⟨_, rfl, ai, _, 1, _, rfl, rfl, hT5, rfl, _, rfl, bx, _, 2, _, rfl, rfl, SqL.of db5.hb, rfl, i2, _, rfl, .inl (SqL.of db5.h2), rfl, all_flat_int _, !decide (p ∈ had), by rw [inV_int]; rfl, ?_⟩
          cases hh : (!decide (p ∈ had)) with
          | false =>
            rw [hh] at u3
            exact u3 H5 ga ws5 (by
              show Db K H0 H5 F Wl bx i0 i1 i2 sn inn val had snt zs Us ws5 (wl ++ (_ ++ []).map _)
              rw [List.append_nil]
              exact db5) hga nga
          | true =>
            rw [hh] at u3
            refine ⟨_, rfl, .inl ⟨rfl, _, SqL.of db5.hW⟩, _, rfl, by show 2 ≤ sizeLine; decide, fun tw htw => ?_⟩
            have x2 := same_new (o := .tup [.str "empty", .int (k : Int)]) htw
            refine ⟨Wl, _, _, rfl, rfl, x2 _ _ db5.hW, by rw [List.length_map]; exact lt_line (by omega), ?_⟩
            have db6 := (db5.same x2).wrong (t := tw) (x := ("empty", k)) upd_same
            refine u3 _ ga (ws5 ++ [tw]) ?_ ((upd_ne (n3 nga).2.1).trans (x2 _ _ hga)) nga
            show Db K H0 _ F Wl bx i0 i1 i2 sn inn val had snt zs Us _ (wl ++ (_ ++ [("empty" : Str)]).map _)
            rw [List.map_append, ← List.append_assoc]
            exact db6
      have u1 : ∀ (H5 : Hp) (ga : Addr), Db K H0 H5 F Wl bx i0 i1 i2 sn inn val had snt zs Us ws wl → H5 ga = some (.lst ((if t = true then inn else []).map V.int)) → ga ∉ [F, Wl, bx] →
          (tSeq (tIfS (tTest (tOp (rNeD K) (tLc (iList K (tVar 5)) (gName 6) (tTest (tOp rNe (tVar 6) (tOp (rIxT K) (tVar 0) (tC (V.int 1))))) (tVar 6) (List.map (fun x => x.snd) [(("parcel" : Str), 6)])) (tLst tNil))) (tDrop (tBM K "list" rAppend (tVar 4) (tCons (tTup (tCons (tC (V.str "wrong")) (tCons (tVar 1) tNil))) tNil))) tNext) (tSeq (tIfS (tAnd (tTest (tOp (rIn K true) (tOp (rIxT K) (tVar 0) (tC (V.int 1))) (tOp (rIxL K) (tVar 2) (tC (V.int 0))))) (tTest (tOp (rIn K true) (tOp (rIxT K) (tVar 0) (tC (V.int 1))) (tOp (rIxL K) (tVar 2) (tC (V.int 2)))))) (tDrop (tBM K "list" rAppend (tVar 4) (tCons (tTup (tCons (tC (V.str "empty")) (tCons (tVar 1) tNil))) tNil))) tNext) (tSeq (tIfS (tTest (tOp (rNeD K) (tVar 5) (tLst tNil))) (tSeq (tAsg (tLst tNil) (gSub (tVar 2) (tC (V.int 0)) rSetL)) (tAsg (tOp rCat (tOp (rIxL K) (tVar 2) (tC (V.int 2))) (tLc (iList K (tVar 5)) (gName 6) (tTest (tOp rEq (tVar 6) (tOp (rIxT K) (tVar 0) (tC (V.int 1))))) (tVar 6) (List.map (fun x => x.snd) [(("parcel" : Str), 6)]))) (gSub (tVar 2) (tC (V.int 2)) rSetL))) tNext) (tRet (tTup (tCons (tLst tNil) (tCons (tC (V.bl true)) (tCons (tCB (rListOf K) (tCons (tVar 5) tNil)) tNil)))))))) { nx := fun x H' => Q V.non H', rt := Q } [some (.ref ai), some (.int (k : Int)), some (.ref bx), some (.ref sn), some (.ref Wl), some (.ref ga), none] H5 := by
        intro H5 ga db5 hga nga
        have hT5 := same_tup db5.s hT0
        generalize hgs : (if t = true then inn else []) = gs at *
        refine ⟨_, rfl, ga, rfl, ⟨_, SqL.of hga⟩, fun G hG => ?_⟩
        refine lc_list (K := K) (a := ga) (xs := gs.map V.int) (fun j H' => Same H5 H' ∧ H' G = some (.lst (((gs.take j).filter fun q => decide (q ≠ p)).map V.int))) ⟨same_new hG, upd_same⟩ (fun j H' _ y => SqL.of (y.1 _ _ hga)) ?_ ?_
        · rintro j y H' hj ⟨s', hG'⟩
          obtain ⟨q1, hq1, rfl⟩ := map_get hj
          have hfl : ((gs.take j).filter fun q => decide (q ≠ p)).length ≤ 10004 := Nat.le_trans (List.length_filter_le _ _) (by rw [List.length_take]; omega)
          refine ⟨rfl, _, rfl, _, rfl, ai, _, 1, _, rfl, rfl, same_tup s' hT5, rfl, rfl, _, rfl, ?_⟩
          rw [take_more hq1, List.filter_append]
          by_cases e : q1 = p
          · have e1 : (!decide (V.int q1 = V.int p)) = false := by rw [e, decide_eq_true rfl]; rfl
            have e2 : [q1].filter (fun q => decide (q ≠ p)) = [] := by simp [e]
            rw [e1, e2, List.append_nil]
            exact ⟨s', hG'⟩
          · have e1 : (!decide (V.int q1 = V.int p)) = true := by rw [decide_eq_false (fun z => e (V.int.inj z))]; rfl
            have e2 : [q1].filter (fun q => decide (q ≠ p)) = [q1] := by simp [e]
            rw [e1, e2]
            exact ⟨_, rfl, _, hG', by rw [List.length_map]; exact lt_line (by omega), same_upd s' hG, by rw [upd_same, List.map_append]; rfl⟩
        rintro H6 ⟨s6, hG6⟩
        rw [List.length_map, List.take_length] at hG6
        refine ⟨Nat.zero_le _, fun e he => ?_⟩
        have x1 := same_new (o := .lst []) he
        refine ⟨.list ((gs.filter fun q => decide (q ≠ p)).map PyData.int), .list [], .lst (SqL.of (x1 _ _ hG6)) (dp_flatInts K _ _), nilD upd_same, (sm_ints _).shaped (by decide), sm_nil.shaped (by decide), _, rfl, ?_⟩
        rw [eqv_nil, any_filt]
        have db7 := db5.same (s6.trans x1)
        have hga7 := (s6.trans x1) _ _ hga
        generalize upd H6 e (.lst []) = H7 at db7 hga7
        cases hca : gs.any (fun q => decide (q ≠ p)) with
        | false =>
          rw [hca] at u2
          exact u2 H7 ga ws (by omega) (by
            show Db K H0 H7 F Wl bx i0 i1 i2 sn inn val had snt zs Us ws (wl ++ [])
            rw [List.append_nil]
            exact db7) hga7 nga
        | true =>
          rw [hca] at u2
          refine ⟨_, rfl, .inl ⟨rfl, _, SqL.of db7.hW⟩, _, rfl, by show 2 ≤ sizeLine; decide, fun tw htw => ?_⟩
          have x2 := same_new (o := .tup [.str "wrong", .int (k : Int)]) htw
          refine ⟨Wl, _, _, rfl, rfl, x2 _ _ db7.hW, by rw [List.length_map]; exact lt_line (by omega), ?_⟩
          have db8 := (db7.same x2).wrong (t := tw) (x := ("wrong", k)) upd_same
          exact u2 _ ga (ws ++ [tw]) (by rw [List.length_append]; show ws.length + 1 ≤ _; omega) db8 ((upd_ne (n3 nga).2.1).trans (x2 _ _ hga7)) nga
      refine ⟨_, rfl, ai, _, 2, _, rfl, rfl, hT, rfl, _, rfl, ?_⟩
      cases t with
      | true => exact ⟨_, rfl, bx, _, 0, _, rfl, rfl, SqL.of db.hb, rfl, u1 H i0 db db.h0 (db.ni _ (by simp))⟩
      | false => exact ⟨Nat.zero_le _, fun e he => u1 _ e (db.same (same_new he)) upd_same (db.fresh he)⟩
    · have eG : cGot p t inn val = [] := if_neg hv
      have eI : cInn p t inn val = inn := if_neg hv
      have eW : cWr p t inn val had snt = (if (decide (p ∈ inn) && decide (p ∈ snt)) = true then [("refused" : Str)] else []) := if_neg hv
      rw [eG, eI, eW, decide_eq_false hv] at q
      rw [decide_eq_false hv]
      have fin : ∀ (H2 : Hp) (ws2 : List Addr), Db K H0 H2 F Wl bx i0 i1 i2 sn inn val had snt zs Us ws2 (wl ++ (if (decide (p ∈ inn) && decide (p ∈ snt)) = true then [("refused" : Str)] else []).map fun x => (x, k)) →
          tRet (tTup (tCons (tLst tNil) (tCons (tC (V.bl false)) (tCons (tLst tNil) tNil)))) { nx := fun x H' => Q V.non H', rt := Q } [some (.ref ai), some (.int (k : Int)), some (.ref bx), some (.ref sn), some (.ref Wl), none, none] H2 := by
        intro H2 ws2 db2
        refine ⟨Nat.zero_le _, fun f1 hf1 => ⟨Nat.zero_le _, fun f2 hf2 => ⟨by show 3 ≤ sizeLine; decide, fun r hr => ?_⟩⟩⟩
        have y1 := same_new (o := .lst []) hf1
        have y2 := same_new (o := .lst []) hf2
        have y3 := same_new (o := .tup [.ref f1, .bl false, .ref f2]) hr
        have y23 := y2.trans y3
        have db3 := db2.same (y1.trans y23)
        exact q _ r f1 f2 i0 i2 ws2 (by rw [List.filter_nil, List.append_nil]; exact db3) upd_same (y23 _ _ upd_same) (y3 _ _ upd_same) (db2.fresh hf1) ((db2.same y1).fresh hf2)
      have app0 : ∀ l : List (Str × Nat), l ++ (([] : List Str).map fun x => (x, k)) = l := fun l => List.append_nil l
      refine ⟨_, rfl, ai, _, 1, _, rfl, rfl, hT, rfl, _, rfl, bx, _, 0, _, rfl, rfl, SqL.of db.hb, rfl, i0, _, rfl, .inl (SqL.of db.h0), rfl, all_flat_int _, decide (p ∈ inn), by rw [inV_int]; rfl, ?_⟩
      cases hi : decide (p ∈ inn) with
      | false =>
        rw [hi] at fin
        exact fin H ws (by
          show Db K H0 H F Wl bx i0 i1 i2 sn inn val had snt zs Us ws (wl ++ ([] : List Str).map _)
          rw [app0]; exact db)
      | true =>
        rw [hi] at fin
        refine ⟨_, rfl, ai, _, 1, _, rfl, rfl, hT, rfl, _, rfl, sn, _, rfl, .inl (SqL.of db.hs), rfl, all_flat_int _, decide (p ∈ snt), by rw [inV_int]; rfl, ?_⟩
        cases hs : decide (p ∈ snt) with
        | false =>
          rw [hs] at fin
          exact fin H ws (by
            show Db K H0 H F Wl bx i0 i1 i2 sn inn val had snt zs Us ws (wl ++ ([] : List Str).map _)
            rw [app0]; exact db)
        | true =>
          rw [hs] at fin
          refine ⟨_, rfl, .inl ⟨rfl, _, SqL.of db.hW⟩, _, rfl, by show 2 ≤ sizeLine; decide, fun tw htw => ?_⟩
          have x2 := same_new (o := .tup [.str "refused", .int (k : Int)]) htw
          refine ⟨Wl, _, _, rfl, rfl, x2 _ _ db.hW, by rw [List.length_map]; exact lt_line (by omega), ?_⟩
          exact fin _ (ws ++ [tw]) ((db.same x2).wrong (t := tw) (x := ("refused", k)) upd_same)
theorem c_law_code (T : Txt K mg) : C8.Cal P w K mg base 1 "_law_code" (sp_law_code K) [] := by
  obtain ⟨fd, F⟩ := T.f_law_code
  exact ⟨_, fd, _, _, ok_law_code T F, T.g_law_code, F.kp, F.bindsN (fun _ _ _ _ _ _ us hl => match us, hl with | [_, _, _, _, _], _ => rfl), .nil⟩
end
end K25

namespace K25
open PySem PySem.Spec PyProof.Rows L2 My StX
structure Inv25 (n : Int) (S : BoxS) (had snt : List Int) : Prop where
  tf : S.tf = "free"
  aj : S.ajar = false
  n0 : 0 ≤ n
  la : (n = 0 ∧ S.age = none ∧ S.last = none) ∨ (1 ≤ n ∧ (∃ a, S.age = some a) ∧ S.last = some n)
  vp : S.valid.Pairwise (· ≤ ·)
  vb : ∀ q ∈ S.valid, q ≤ n
  ha : ∀ q, q ∈ had ↔ q ∈ S.served
  hs : ∀ q, q ∈ snt ↔ q ∈ S.sent
inductive Dd25 : Deed → Prop
  | br (l : Bool) : Dd25 (.bring l true)
  | po : Dd25 .power
  | da : Dd25 .day
  | co (p : Int) (t : Bool) : Dd25 (.code p t true)
theorem mem_cv {m : Nat} {p q : Int} {l : List Int} : q ∈ cv m p l ↔ q ∈ l ∨ (q = p ∧ 0 < m) := by
  unfold cv
  by_cases hm : m = 0
  · rw [if_pos hm]
    exact ⟨.inl, fun h => h.elim id (fun h => by omega)⟩
  · rw [if_neg hm]
    unfold ins
    split
    · rename_i hp
      exact ⟨.inl, fun h => h.elim id (fun h => by rw [h.1]; exact hp)⟩
    · rw [List.mem_append, List.mem_singleton]
      exact ⟨fun h => h.elim .inl (fun e => .inr ⟨e, by omega⟩), fun h => h.elim .inl (fun e => .inr e.1)⟩
theorem cv_sorted {m : Nat} {p : Int} {l : List Int} (h : l.Pairwise (· ≤ ·)) (hb : ∀ q ∈ l, q ≤ p) : (cv m p l).Pairwise (· ≤ ·) := by
  unfold cv
  split
  · exact h
  · unfold ins
    split
    · exact h
    · exact List.pairwise_append.mpr ⟨h, List.pairwise_singleton _ _, fun x hx y hy => by rw [List.mem_singleton.mp hy]; exact hb x hx⟩
section
variable {P : Program} {w : World} {K : PySem.W.Frag} {mg : Str → Option Value} {base : Heap}
def sp_law_due (K : PySem.W.Frag) : Sp := fun vs H Q _ => ∃ (my u : Addr) (d : Int) (m0 m1 : Nat) (rb : List RuleL) (us : List Addr) (ds : List Deed), vs = [.int d, .ref my, .ref u] ∧ H my = some (.lst [.int (m0 : Int), .int (m1 : Int)]) ∧ m0 ≤ 2 ∧ m1 ≤ 2 ∧ Bk25 rb m0 m1 ∧ H u = some (.lst (us.map V.ref)) ∧ DeedsAt K H (us.map V.ref) ds ∧ (∀ x ∈ ds, Dd25 x) ∧ ds.length ≤ 130 ∧
  ∀ (H' : Hp) (p F Wl st il yl : Addr) (had snt : List Int), Same H H' → H' p = some (.tup [.ref F, .ref Wl, .ref st]) → DueAt H' F (runF rb d ds).2.2 → FltDue H' Wl (fl 0 (runF rb d ds).2.2) → H' st = some (.tup [.bl false, .ref il, .str "free", .ref yl, oV (runF rb d ds).2.1.age]) → H' il = some (.lst ((runF rb d ds).2.1.inside.map V.int)) → H' yl = some (.lst ((runF rb d ds).2.1.valid.map V.int)) → Inv25 (runF rb d ds).1 (runF rb d ds).2.1 had snt → Q (.ref p) H'
def Du25 (K : PySem.W.Frag) (H : Hp) (d : Int) (my u F Wl bx : Addr) (rb : List RuleL) (ds : List Deed) (i : Nat) (σ : L2.St) (H' : Hp) : Prop := ∃ (o9 o10 o11 o12 : Option V) (i0 i1 i2 sn : Addr) (had snt : List Int) (zs : List (Addr × Addr × Addr)) (ws : List Addr), σ = [some (.int d), some (.ref my), some (.ref u), some (.ref F), some (.ref Wl), some (.ref sn), some (.ref bx), some (.int (runF rb d (ds.take i)).1), some (oV (runF rb d (ds.take i)).2.1.age), o9, o10, o11, o12] ∧
  Db K H H' F Wl bx i0 i1 i2 sn (runF rb d (ds.take i)).2.1.inside (runF rb d (ds.take i)).2.1.valid had snt zs (runF rb d (ds.take i)).2.2 ws (fl 0 (runF rb d (ds.take i)).2.2) ∧ Inv25 (runF rb d (ds.take i)).1 (runF rb d (ds.take i)).2.1 had snt ∧ had.length ≤ 4000 * i ∧ snt.length ≤ 2 * i
set_option maxHeartbeats 2000000 in
theorem ok_law_due (T : Txt K mg) {fd : FuncData} (F : FunD K d_law_due.name d_law_due.qual d_law_due.params d_law_due.body d_law_due.scope (d_law_due.dvs K) (d_law_due.kws K) (He.fAd K d_law_due.at_) fd) : FnOk P w K mg base C8.CX0 2 (He.fAd K d_law_due.at_) fd ["days", "many", "acts"] (sp_law_due K) := by
  have c_law_code := c_law_code (P := P) (w := w) (base := base) T
  refine F.ok sc_law_due (fun vs H Q E h => ?_) (fun cdv A outer s H vs Q E hr h => ?_)
  · obtain ⟨my, u, d, m0, m1, rb, us, ds, rfl, _⟩ := h
    rfl
  · have hu := L2.hu_of hr
    obtain ⟨my, u, d, m0, m1, rb, us, ds, rfl, hmy0, hm0, hm1, hb, hu0, dd, hdd, hl, q⟩ := h
    refine ⟨_, (PSs.nox ((pss_cons (ps_asg (pe_tup (pa_cons (pe_lst pa_nil) (pa_cons (pe_lst pa_nil) (pa_cons (pe_lst pa_nil) (pa_cons (pe_lst (pa_cons (pe_lst pa_nil) (pa_cons (pe_lst pa_nil) (pa_cons (pe_lst pa_nil) pa_nil)))) (pa_cons pe_int (pa_cons pe_non pa_nil))))))) (My.pg_tupK (K := K) (n := 6) rfl rfl (pgs_cons (pg_name (i := 3) sc_law_due.nd rfl (by first | exact Or.inl rfl | exact Or.inr rfl)) (pgs_cons (pg_name (i := 4) sc_law_due.nd rfl (by first | exact Or.inl rfl | exact Or.inr rfl)) (pgs_cons (pg_name (i := 5) sc_law_due.nd rfl (by first | exact Or.inl rfl | exact Or.inr rfl)) (pgs_cons (pg_name (i := 6) sc_law_due.nd rfl (by first | exact Or.inl rfl | exact Or.inr rfl)) (pgs_cons (pg_name (i := 7) sc_law_due.nd rfl (by first | exact Or.inl rfl | exact Or.inr rfl)) (pgs_cons (pg_name (i := 8) sc_law_due.nd rfl (by first | exact Or.inl rfl | exact Or.inr rfl)) pgs_nil))))))))
  (pss_cons (ps_for PassesOwn.never rfl (pi_range1 (by rfl) T.range (pa_cons (pe_callB (My.len_seqK (K := K) rfl) (by rfl) T.len (by decide +kernel) (pa_cons (pv 2) pa_nil)) pa_nil)) (pg_name (i := 9) sc_law_due.nd rfl (by first | exact Or.inl rfl | exact Or.inr rfl))
  (pss_cons (ps_par3 (i := 10) (j := 11) (l := 12) (by rfl) sc_law_due.nd rfl rfl rfl (by decide) (by decide) (by decide) rfl rfl rfl (pa_cons (pe_ix (My.ix_listK (K := K) rfl) (pv 2) (pv 9) (fun _ _ => rfl)) (pa_cons (pe_lst pa_nil) (pa_cons pe_bl pa_nil))) (by rfl))
  (pss_cons (ps_if (pt_cmpR op_eq (pe_ix (My.ix_tupK (K := K) rfl) (pv 10) pe_int (fun _ _ => rfl)) pe_str (nomark _))
  (pss_cons (ps_expr (My.pe_bmK (K := K) rfl PySem.F.plainAttrs_list PySem.F.slot_list_append PySem.F.type_list_append mt_append (pv 3) (pa_cons (C8.pe_c c_law_code hr (by decide) rfl (pa_cons (pv 10) (pa_cons (pv 9) (pa_cons (pv 6) (pa_cons (pv 5) (pa_cons (pv 4) pa_nil)))))) pa_nil)))
  (pss_one ps_continue))
  pss_nil)
  (pss_cons (ps_if (pt_cmpR op_eq (pe_ix (My.ix_tupK (K := K) rfl) (pv 10) pe_int (fun _ _ => rfl)) pe_str (nomark _))
  (pss_cons (ps_par3 (i := 7) (j := 8) (l := 12) (by rfl) sc_law_due.nd rfl rfl rfl (by decide) (by decide) (by decide) rfl rfl rfl (pa_cons (pe_op op_add (pv 7) pe_int) (pa_cons pe_int (pa_cons pe_bl pa_nil))) (by rfl))
  (pss_cons (ps_if (PW.pt (pw_and (pt_val (pe_ix (My.ix_tupK (K := K) rfl) (pv 10) pe_int (fun _ _ => rfl))) (pw_and1 (pt_cmpR (My.neDK (K := K) rfl hr.units) (pe_ix (My.ix_listK (K := K) rfl) (pv 6) pe_int (fun _ _ => rfl)) (pe_lst pa_nil) (nomark _)))))
  (pss_one (ps_expr (My.pe_bmK (K := K) rfl PySem.F.plainAttrs_list PySem.F.slot_list_append PySem.F.type_list_append mt_append (pv 4) (pa_cons (pe_tup (pa_cons pe_str (pa_cons (pv 9) pa_nil))) pa_nil))))
  pss_nil)
  (pss_cons (ps_asg (pe_op op_cat (pe_ix (My.ix_listK (K := K) rfl) (pv 6) pe_int (fun _ _ => rfl)) (pe_op op_rep (pe_lst (pa_cons (pv 7) pa_nil)) (pe_callTy call_int1 (by rfl) T.int (by decide +kernel) (pa_cons (pe_ix (My.ix_tupK (K := K) rfl) (pv 10) pe_int (fun _ _ => rfl)) pa_nil)))) (pg_sub (pv 6) pe_int set_list))
  (pss_one (ps_set (i := 11) sc_law_due.nd rfl (by first | exact Or.inl rfl | exact Or.inr rfl) (pe_op op_rep (pe_lst (pa_cons (pv 7) pa_nil)) (pe_ix (My.ix_listK (K := K) rfl) (pv 1) pe_int (fun _ _ => rfl))))))))
  (pss_one (ps_if (pt_cmpR op_eq (pe_ix (My.ix_tupK (K := K) rfl) (pv 10) pe_int (fun _ _ => rfl)) pe_str (nomark _))
  (pss_one (ps_set (i := 11) sc_law_due.nd rfl (by first | exact Or.inl rfl | exact Or.inr rfl) (pe_op op_rep (pe_lst (pa_cons (pv 7) pa_nil)) (pe_op op_mulW (pe_ix (My.ix_listK (K := K) rfl) (pv 1) pe_int (fun _ _ => rfl)) (pe_callTy call_int1 (by rfl) T.int (by decide +kernel) (pa_cons (pe_cmpR op_gt (pv 7) pe_int (nomark _)) pa_nil))))))
  (pss_one (ps_if (pt_cmpR op_notN (pv 8) pe_non (nomark _))
  (pss_cons (ps_set (i := 8) sc_law_due.nd rfl (by first | exact Or.inl rfl | exact Or.inr rfl) (pe_op op_add (pv 8) pe_int))
  (pss_one (ps_if (pt_cmpR op_eq (pv 8) (pv 0) (nomark _))
  (pss_one (ps_asg (pe_lst pa_nil) (pg_sub (pv 6) pe_int set_list)))
  pss_nil)))
  pss_nil)))))
  (pss_cons (ps_if (PW.pt (pw_and (pt_cmpR (My.neDK (K := K) rfl hr.units) (pv 11) (pe_lst pa_nil) (nomark _)) (pw_and1 (pt_cmpR (My.notIn_seqK (K := K) rfl) (pv 7) (pe_ix (My.ix_listK (K := K) rfl) (pv 6) pe_int (fun _ _ => rfl)) (by rfl)))))
  (pss_one (ps_asg (pe_op op_cat (pe_ix (My.ix_listK (K := K) rfl) (pv 6) pe_int (fun _ _ => rfl)) (pe_lst (pa_cons (pv 7) pa_nil))) (pg_sub (pv 6) pe_int set_list)))
  pss_nil)
  (pss_cons (ps_set (i := 5) sc_law_due.nd rfl (by first | exact Or.inl rfl | exact Or.inr rfl) (pe_op op_cat (pv 5) (pv 11)))
  (pss_one (ps_expr (My.pe_bmK (K := K) rfl PySem.F.plainAttrs_list PySem.F.slot_list_append PySem.F.type_list_append mt_append (pv 3) (pa_cons (pe_tup (pa_cons (pv 11) (pa_cons (pv 12) (pa_cons (pe_lst pa_nil) pa_nil)))) pa_nil))))))))))
  (pss_one (ps_ret (pe_tup (pa_cons (pv 3) (pa_cons (pv 4) (pa_cons (pe_tup (pa_cons pe_bl (pa_cons (pe_ix (My.ix_listK (K := K) rfl) (pv 6) pe_int (fun _ _ => rfl)) (pa_cons pe_str (pa_cons (pe_ix (My.ix_listK (K := K) rfl) (pv 6) pe_int (fun _ _ => rfl)) (pa_cons (pv 8) pa_nil)))))) pa_nil)))))))))), ?_⟩
    have hul : us.length = ds.length := by
      have := dd.length
      rw [List.length_map] at this
      exact this
    refine ⟨Nat.zero_le _, fun F hF => ⟨Nat.zero_le _, fun Wl hW => ⟨Nat.zero_le _, fun sn hsn => ⟨Nat.zero_le _, fun i0 h0 => ⟨Nat.zero_le _, fun i1 h1 => ⟨Nat.zero_le _, fun i2 h2 => ⟨by show 3 ≤ sizeLine; decide, fun bx hbx => ⟨by show 6 ≤ sizeLine; decide, fun tt htt => ⟨tt, _, rfl, SqT.of upd_same, rfl, _, _, rfl, _, _, rfl, _, _, rfl, _, _, rfl, _, _, rfl, _, _, rfl, rfl, ?_⟩⟩⟩⟩⟩⟩⟩⟩⟩
    have b1 := same_new (o := .lst []) hF
    have b2 := same_new (o := .lst []) hW
    have b3 := same_new (o := .lst []) hsn
    have b4 := same_new (o := .lst []) h0
    have b5 := same_new (o := .lst []) h1
    have b6 := same_new (o := .lst []) h2
    have b7 := same_new (o := .lst [.ref i0, .ref i1, .ref i2]) hbx
    have b8 := same_new (o := .tup [.ref F, .ref Wl, .ref sn, .ref bx, .int 0, .non]) htt
    have c78 := b7.trans b8
    have c68 := b6.trans c78
    have c58 := b5.trans c68
    have c48 := b4.trans c58
    have c38 := b3.trans c48
    have c28 := b2.trans c38
    have c18 := b1.trans c28
    have eF := (upd_same : upd H F (.lst []) F = _)
    have eW := (upd_same : upd (upd H F (.lst [])) Wl (.lst []) Wl = _)
    have st0 : Db K H _ F Wl bx i0 i1 i2 sn [] [] [] [] [] [] [] [] := ⟨c18, hF, b1.free hW, b1.free (b2.free (b3.free (b4.free (b5.free (b6.free hbx))))), c28 _ _ eF, .nil, fun z hz => (by cases hz), c38 _ _ eW, .nil, b8 _ _ upd_same, c58 _ _ upd_same, c68 _ _ upd_same, c78 _ _ upd_same, c48 _ _ upd_same, fun c hc => by
      simp only [List.mem_cons, List.not_mem_nil, or_false] at hc
      rcases hc with rfl | rfl | rfl | rfl
      · exact m3 (ne_of_none (b3 _ _ (b2 _ _ eF)) h0).symm (ne_of_none (b3 _ _ eW) h0).symm (ne_of_none ((b5.trans b6) _ _ upd_same) hbx)
      · exact m3 (ne_of_none (b4 _ _ (b3 _ _ (b2 _ _ eF))) h1).symm (ne_of_none (b4 _ _ (b3 _ _ eW)) h1).symm (ne_of_none (b6 _ _ upd_same) hbx)
      · exact m3 (ne_of_none (b5 _ _ (b4 _ _ (b3 _ _ (b2 _ _ eF)))) h2).symm (ne_of_none (b5 _ _ (b4 _ _ (b3 _ _ eW))) h2).symm (ne_of_none upd_same hbx)
      · exact m3 (ne_of_none (b2 _ _ eF) hsn).symm (ne_of_none eW hsn).symm (ne_of_none ((b4.trans (b5.trans b6)) _ _ upd_same) hbx), ⟨ne_of_none eF hW, ne_of_none (b6 _ _ (b5 _ _ (b4 _ _ (b3 _ _ (b2 _ _ eF))))) hbx, ne_of_none (b6 _ _ (b5 _ _ (b4 _ _ (b3 _ _ eW)))) hbx⟩⟩
    show Ends.nx _ _ (upd (upd (upd (upd (upd (upd (upd (upd H F (.lst [])) Wl (.lst [])) sn (.lst [])) i0 (.lst [])) i1 (.lst [])) i2 (.lst [])) bx (.lst [.ref i0, .ref i1, .ref i2])) tt (.tup [.ref F, .ref Wl, .ref sn, .ref bx, .int 0, .non]))
    generalize upd (upd (upd (upd (upd (upd (upd (upd H F (.lst [])) Wl (.lst [])) sn (.lst [])) i0 (.lst [])) i1 (.lst [])) i2 (.lst [])) bx (.lst [.ref i0, .ref i1, .ref i2])) tt (.tup [.ref F, .ref Wl, .ref sn, .ref bx, .int 0, .non]) = Hz at st0
    refine ⟨_, rfl, u, _, rfl, .inl (SqL.of (st0.s _ _ hu0)), ?_⟩
    have hlen : (us.map V.ref).length = ds.length := by rw [List.length_map, hul]
    refine ⟨_, rfl, Int.le_trans (by decide) (Int.natCast_nonneg _), Int.lt_of_lt_of_le (show (((us.map V.ref).length : Nat) : Int) < 1000 by omega) (by decide), ?_⟩
    refine for_range (lo := 0) (Du25 K H d my u F Wl bx rb ds) ⟨_, _, _, _, i0, i1, i2, sn, [], [], [], [], rfl, st0, ⟨rfl, rfl, Int.le_refl _, .inl ⟨rfl, rfl, rfl⟩, .nil, fun q h => (by cases h), fun q => ⟨fun h => (by cases h), fun h => (by cases h)⟩, fun q => ⟨fun h => (by cases h), fun h => (by cases h)⟩⟩, Nat.zero_le _, Nat.zero_le _⟩ ?_ ?_
    · rintro i σ H1 hi ⟨o9, o10, o11, o12, i0, i1, i2, sn, had, snt, zs, ws, rfl, st1, inv, hhl, hsl⟩
      have hil : i < ds.length := by
        rw [Int.toNat_natCast, hlen] at hi
        exact hi
      obtain ⟨ai, hai⟩ : ∃ ai, us[i]? = some ai := ⟨_, List.getElem?_eq_getElem (by omega)⟩
      have hai2 : (us.map V.ref)[i]? = some (.ref ai) := by rw [List.getElem?_map, hai]; rfl
      obtain ⟨x, hx, hT⟩ := paired_at dd hai2
      obtain ⟨t', e, hT2⟩ := hT
      cases e
      have w0 : atI x.vs 0 = some (.str x.w) := by cases x <;> rfl
      have est := runF_more (rs := rb) (d := d) hx
      have hdx := hdd x (List.mem_of_getElem? hx)
      have hUl : (runF rb d (ds.take i)).2.2.length = i := by rw [runF_len, List.length_take]; omega
      have hSt : runF rb d (ds.take i) = ((runF rb d (ds.take i)).1, (runF rb d (ds.take i)).2.1, (runF rb d (ds.take i)).2.2) := rfl
      have inl : (runF rb d (ds.take i)).2.1.inside.length ≤ 3024 := by
        have := (runF_bd (d := d) hb.g ds i (by omega)).i
        exact Nat.le_trans this (by omega)
      have vnl : (runF rb d (ds.take i)).2.1.valid.length ≤ 3024 := by
        have := (runF_bd (d := d) hb.g ds i (by omega)).v
        exact Nat.le_trans this (by omega)
      have hflW : (fl 0 (runF rb d (ds.take i)).2.2).length ≤ 2 * i := by
        have := fl_len 0 (runF rb d (ds.take i)).2.2 (fun U hU => run_w rb d _ U hU)
        omega
      generalize (runF rb d (ds.take i)).1 = n at *
      generalize (runF rb d (ds.take i)).2.1 = S at *
      generalize (runF rb d (ds.take i)).2.2 = Us at *
      have hwl : ws.length ≤ 2 * i := by rw [st1.hw.length]; exact hflW
      have hzl : zs.length = i := by rw [st1.hz.length]; exact hUl
      have mk : ∀ (n' : Int) (S' : BoxS) (U' : ToldS), runF rb d (ds.take (i + 1)) = (n', S', Us ++ [U']) → ∀ σ H', (∃ (o9 o10 o11 o12 : Option V) (i0 i1 i2 sn : Addr) (had snt : List Int) (zs : List (Addr × Addr × Addr)) (ws : List Addr), σ = [some (.int d), some (.ref my), some (.ref u), some (.ref F), some (.ref Wl), some (.ref sn), some (.ref bx), some (.int n'), some (oV S'.age), o9, o10, o11, o12] ∧
          Db K H H' F Wl bx i0 i1 i2 sn S'.inside S'.valid had snt zs (Us ++ [U']) ws (fl 0 Us ++ U'.wrongs.map fun x => (x, i)) ∧ Inv25 n' S' had snt ∧ had.length ≤ 4000 * (i + 1) ∧ snt.length ≤ 2 * (i + 1)) → Du25 K H d my u F Wl bx rb ds (i + 1) σ H' := by
        intro n' S' U' e σ H' h
        unfold Du25
        rw [e]
        show ∃ (o9 o10 o11 o12 : Option V) (i0 i1 i2 sn : Addr) (had snt : List Int) (zs : List (Addr × Addr × Addr)) (ws : List Addr), _ ∧ Db K H H' F Wl bx i0 i1 i2 sn S'.inside S'.valid had snt zs (Us ++ [U']) ws (fl 0 (Us ++ [U'])) ∧ _
        rw [fl_snoc, hUl]
        exact h
      rw [Int.zero_add]
      refine ⟨_, rfl, _, rfl, u, _, _, .ref ai, rfl, rfl, SqL.of (st1.s _ _ hu0), atI_nat hai2, Nat.zero_le _, fun lt hlt => ⟨_, _, _, rfl, ?_⟩⟩
      have y0 := same_new (o := .lst []) hlt
      have st2 := st1.same y0
      have hlt2 : upd H1 lt (.lst []) lt = some (.lst []) := upd_same
      have nlt := st1.fresh hlt
      show Ends.nx _ _ (upd H1 lt (.lst []))
      generalize upd H1 lt (.lst []) = H2 at st2 hlt2
      have hT3 := same_tup st2.s hT2
      have app0 : ∀ l : List (Str × Nat), l ++ (([] : List Str).map fun x => (x, i)) = l := fun l => List.append_nil l
      have rep : ∀ (m : Nat) (p : Int), (List.replicate ((m : Int)).toNat [V.int p]).flatten = (List.replicate m p).map V.int := fun m p => by
        rw [Int.toNat_natCast, List.flatten_replicate_singleton, List.map_replicate]
      -- the report
      have t1 : ∀ (D : Ends) (H6 : Hp) (i0' i1' lt2 : Addr) (m : Nat) (n5 : Int) (ag5 : Option Int) (gv : Bool) (ws5 : List Addr) (S' : BoxS) (U' : ToldS), m ≤ 2 → (∀ σ H', Du25 K H d my u F Wl bx rb ds (i + 1) σ H' → D.nx σ H') → runF rb d (ds.take (i + 1)) = (n5, S', Us ++ [U']) → S'.age = ag5 → U'.letters = List.replicate m n5 → U'.opened = gv → U'.got = [] → Inv25 n5 S' had (snt ++ List.replicate m n5) →
          Db K H H6 F Wl bx i0' i1' i2 sn S'.inside S'.valid had snt zs Us ws5 (fl 0 Us ++ U'.wrongs.map fun x => (x, i)) → H6 lt2 = some (.lst ((List.replicate m n5).map V.int)) → lt2 ∉ [F, Wl, bx] →
          (tSeq (tAsg (tOp rCat (tVar 5) (tVar 11)) (gName 5)) (tDrop (tBM K "list" rAppend (tVar 3) (tCons (tTup (tCons (tVar 11) (tCons (tVar 12) (tCons (tLst tNil) tNil)))) tNil)))) D [some (.int d), some (.ref my), some (.ref u), some (.ref F), some (.ref Wl), some (.ref sn), some (.ref bx), some (.int n5), some (oV ag5), some (.int (i : Int)), some (.ref ai), some (.ref lt2), some (.bl gv)] H6 := by
        intro D H6 i0' i1' lt2 m n5 ag5 gv ws5 S' U' hm hD est' eag elt eop egt inv' db hlt nlt
        have mk := mk _ _ _ est'
        refine ⟨_, rfl, _, rfl, sn, lt2, _, _, rfl, rfl, db.hs, hlt, by rw [List.length_map, List.length_map, List.length_replicate]; exact Nat.le_of_lt (lt_line (by omega)), fun s2 hs2 => ?_⟩
        have y1 := same_new (o := .lst (snt.map V.int ++ (List.replicate m n5).map V.int)) hs2
        have db2 := (db.same y1).snd (s2 := s2) (n2 := snt ++ List.replicate m n5) (by rw [upd_same, List.map_append]) (db.fresh hs2)
        refine ⟨_, rfl, .inl ⟨rfl, _, SqL.of db2.hF⟩, _, rfl, _, rfl, Nat.zero_le _, fun f2 hf2 => ⟨by show 3 ≤ sizeLine; decide, fun rr hr => ?_⟩⟩
        have y2 := same_new (o := .lst []) hf2
        have y3 := same_new (o := .tup [.ref lt2, .bl gv, .ref f2]) hr
        have y23 := y2.trans y3
        have db3 := db2.same y23
        refine ⟨F, _, _, rfl, rfl, db3.hF, by rw [List.length_map]; exact lt_line (by omega), ?_⟩
        refine hD _ _ (mk _ _ ⟨_, _, _, _, i0', i1', i2, s2, had, snt ++ List.replicate m n5, zs ++ [(rr, lt2, f2)], ws5, by rw [eag]; rfl, ?_, inv', by omega, by rw [List.length_append, List.length_replicate]; omega⟩)
        exact db3.found (z := (rr, lt2, f2)) (U := U') ⟨by rw [eop]; exact upd_same, by rw [elt]; exact (y1.trans y23) _ _ hlt, by rw [egt]; exact y3 _ _ upd_same⟩ nlt (db2.fresh hf2)
      have t2 : ∀ (D : Ends) (H5 : Hp) (i0' i1' lt2 : Addr) (val5 : List Int) (m : Nat) (n5 : Int) (ag5 : Option Int) (gv : Bool) (ws5 : List Addr) (S' : BoxS) (U' : ToldS), m ≤ 2 → (∀ σ H', Du25 K H d my u F Wl bx rb ds (i + 1) σ H' → D.nx σ H') → runF rb d (ds.take (i + 1)) = (n5, S', Us ++ [U']) → S'.age = ag5 → U'.letters = List.replicate m n5 → U'.opened = gv → U'.got = [] → Inv25 n5 S' had (snt ++ List.replicate m n5) → S'.valid = cv m n5 val5 → val5.length ≤ 4000 →
          Db K H H5 F Wl bx i0' i1' i2 sn S'.inside val5 had snt zs Us ws5 (fl 0 Us ++ U'.wrongs.map fun x => (x, i)) → H5 lt2 = some (.lst ((List.replicate m n5).map V.int)) → lt2 ∉ [F, Wl, bx] →
          (tSeq (tIfS (tAnd (tTest (tOp (rNeD K) (tVar 11) (tLst tNil))) (tTest (tOp (rIn K true) (tVar 7) (tOp (rIxL K) (tVar 6) (tC (V.int 1)))))) (tAsg (tOp rCat (tOp (rIxL K) (tVar 6) (tC (V.int 1))) (tLst (tCons (tVar 7) tNil))) (gSub (tVar 6) (tC (V.int 1)) rSetL)) tNext) (tSeq (tAsg (tOp rCat (tVar 5) (tVar 11)) (gName 5)) (tDrop (tBM K "list" rAppend (tVar 3) (tCons (tTup (tCons (tVar 11) (tCons (tVar 12) (tCons (tLst tNil) tNil)))) tNil))))) D [some (.int d), some (.ref my), some (.ref u), some (.ref F), some (.ref Wl), some (.ref sn), some (.ref bx), some (.int n5), some (oV ag5), some (.int (i : Int)), some (.ref ai), some (.ref lt2), some (.bl gv)] H5 := by
        intro D H5 i0' i1' lt2 val5 m n5 ag5 gv ws5 S' U' hm hD est' eag elt eop egt inv' eva hvl db hlt nlt
        refine ⟨_, rfl, Nat.zero_le _, fun e he => ?_⟩
        have x0 := same_new (o := .lst []) he
        refine ⟨.list ((List.replicate m n5).map PyData.int), .list [], .lst (SqL.of (x0 _ _ hlt)) (dp_flatInts K _ _), nilD upd_same, (sm_ints _).shaped (by decide), sm_nil.shaped (by decide), _, rfl, ?_⟩
        rw [eqv_nil]
        have db6 := db.same x0
        have hlt6 := x0 _ _ hlt
        generalize upd H5 e (.lst []) = H6 at db6 hlt6
        have no : cv m n5 val5 = val5 → (tSeq (tAsg (tOp rCat (tVar 5) (tVar 11)) (gName 5)) (tDrop (tBM K "list" rAppend (tVar 3) (tCons (tTup (tCons (tVar 11) (tCons (tVar 12) (tCons (tLst tNil) tNil)))) tNil)))) D [some (.int d), some (.ref my), some (.ref u), some (.ref F), some (.ref Wl), some (.ref sn), some (.ref bx), some (.int n5), some (oV ag5), some (.int (i : Int)), some (.ref ai), some (.ref lt2), some (.bl gv)] H6 := fun c => t1 D H6 i0' i1' lt2 m n5 ag5 gv ws5 S' U' hm hD est' eag elt eop egt inv' (by rw [eva, c]; exact db6) hlt6 nlt
        cases m with
        | zero => exact no rfl
        | succ m =>
          refine ⟨_, rfl, _, rfl, bx, _, 1, _, rfl, rfl, SqL.of db6.hb, rfl, i1', _, rfl, .inl (SqL.of db6.h1), rfl, all_flat_int _, !decide (n5 ∈ val5), by rw [inV_int]; rfl, ?_⟩
          by_cases hc : n5 ∈ val5
          · rw [decide_eq_true hc]
            exact no (by unfold cv; rw [if_neg (by omega)]; unfold ins; rw [if_pos hc])
          · rw [decide_eq_false hc]
            refine ⟨_, rfl, bx, _, 1, _, rfl, rfl, SqL.of db6.hb, rfl, _, rfl, by show 1 ≤ sizeLine; decide, fun g1 hg1 => ?_⟩
            have x1 := same_new (o := .lst [.int n5]) hg1
            refine ⟨i1', g1, _, _, rfl, rfl, x1 _ _ db6.h1, upd_same, by rw [List.length_map]; exact Nat.le_of_lt (lt_line (by show _ + 1 ≤ 1000000; omega)), fun k1 hk1 => ⟨_, rfl, bx, _, 1, 1, rfl, rfl, same_new hk1 _ _ (x1 _ _ db6.hb), rfl, ?_⟩⟩
            have x2 := same_new (o := .lst (val5.map V.int ++ [.int n5])) hk1
            have x12 := x1.trans x2
            have eval : val5.map V.int ++ [V.int n5] = (cv (m + 1) n5 val5).map V.int := by
              unfold cv
              rw [if_neg (by omega)]
              unfold ins
              rw [if_neg hc, List.map_append]
              rfl
            have db7 := (db6.same x12).box (k0 := i0') (k1 := k1) (k2 := i2) (n1 := cv (m + 1) n5 val5) (x12 _ _ db6.h0) (by rw [← eval]; exact upd_same) (x12 _ _ db6.h2) (db6.ni _ (by simp)) ((db6.same x1).fresh hk1) (db6.ni _ (by simp))
            exact t1 D _ i0' k1 lt2 (m + 1) n5 ag5 gv ws5 S' U' hm hD est' eag elt eop egt inv' (by rw [eva]; exact db7) ((upd_ne (n3 nlt).2.2).trans (x12 _ _ hlt6)) nlt
      refine ⟨_, rfl, ai, _, 0, _, rfl, rfl, hT3, w0, rfl, _, rfl, ?_⟩
      cases hdx with
      | co p t =>
        have e0 : runF rb d (ds.take (i + 1)) = (n, (codeF rb p t true S).1, Us ++ [(codeF rb p t true S).2]) := by rw [est, hSt]; rfl
        refine ⟨_, rfl, .inl ⟨rfl, _, SqL.of st2.hF⟩, _, rfl, _, rfl, _, rfl, _, rfl, _, rfl, H, ai, p, t, i, F, Wl, bx, i0, i1, i2, sn, S.inside, S.valid, had, snt, zs, Us, ws, fl 0 Us, rfl, hT2, st2, by omega, by omega, by omega, fun H3 r f1 f2 j0 j2 ws' db3 hr hf1 hf2 n1 n2 => ⟨F, _, _, rfl, rfl, db3.hF, by rw [List.length_map]; exact lt_line (by omega), ?_⟩⟩
        show Du25 K H d my u F Wl bx rb ds (i + 1) _ _
        have hfl : ((cGot p t S.inside S.valid).filter fun q => decide (q = p)).length ≤ 3000 + 24 := by
          refine Nat.le_trans (List.length_filter_le _ _) ?_
          unfold cGot
          split
          · split
            · exact inl
            · exact Nat.zero_le _
          · exact Nat.zero_le _
        by_cases hv : p ∈ S.valid
        · obtain ⟨ms, ec⟩ := code25 hb (t := t) hv
          rw [ec] at e0
          have eG : cGot p t S.inside S.valid = (if t = true then S.inside else []) := if_pos hv
          have eI : cInn p t S.inside S.valid = (if t = true then [] else S.inside) := if_pos hv
          have emis : missF p S = (!decide (p ∈ S.inside) && !decide (p ∈ had)) := by
            unfold missF
            rw [decide_not, decide_not]
            congr 2
            exact decide_eq_decide.mpr (inv.ha p).symm
          have eW : cWr p t S.inside S.valid had snt = (if (if t = true then S.inside else []).any (fun q => decide (q ≠ p)) = true then [("wrong" : Str)] else []) ++ (if missF p S = true then [("empty" : Str)] else []) := by
            rw [emis]
            exact if_pos hv
          rw [eI, eW] at db3
          rw [decide_eq_true hv] at hr
          refine mk _ _ _ e0 _ _ ⟨_, _, _, _, j0, i1, j2, sn, _, snt, zs ++ [(r, f1, f2)], ws', rfl, db3.found (z := (r, f1, f2)) ⟨hr, hf1, by rw [eG] at hf2; exact hf2⟩ n1 n2, ⟨inv.tf, rfl, inv.n0, inv.la, inv.vp, inv.vb, fun q => ?_, inv.hs⟩, ?_, by omega⟩
          · rw [eG]
            show q ∈ had ++ _ ↔ q ∈ (if t = true then (if p ∈ S.inside then ins p S.served else S.served) else S.served)
            rw [List.mem_append, List.mem_filter]
            cases t with
            | false =>
              rw [if_neg Bool.false_ne_true, if_neg Bool.false_ne_true]
              exact ⟨fun h => h.elim (fun h => (inv.ha q).mp h) (fun h => by cases h.1), fun h => .inl ((inv.ha q).mpr h)⟩
            | true =>
              rw [if_pos rfl, if_pos rfl]
              by_cases hpi : p ∈ S.inside
              · rw [if_pos hpi]
                have hins : q ∈ ins p S.served ↔ q ∈ S.served ∨ q = p := by
                  unfold ins
                  split
                  · rename_i hps
                    exact ⟨.inl, fun h => h.elim id (fun e => e ▸ hps)⟩
                  · rw [List.mem_append, List.mem_singleton]
                rw [hins, inv.ha q]
                exact ⟨fun h => h.elim .inl (fun h => .inr (of_decide_eq_true h.2)), fun h => h.elim .inl (fun e => .inr ⟨e ▸ hpi, decide_eq_true e⟩)⟩
              · rw [if_neg hpi]
                exact ⟨fun h => h.elim (fun h => (inv.ha q).mp h) (fun h => absurd ((of_decide_eq_true h.2) ▸ h.1) hpi), fun h => .inl ((inv.ha q).mpr h)⟩
          · rw [List.length_append]
            omega
        · rw [code25n hv] at e0
          have eG : cGot p t S.inside S.valid = [] := if_neg hv
          have eI : cInn p t S.inside S.valid = S.inside := if_neg hv
          have eW : cWr p t S.inside S.valid had snt = (if (decide (p ∈ S.inside) && decide (p ∈ S.sent)) = true then [("refused" : Str)] else []) := by
            have es : decide (p ∈ snt) = decide (p ∈ S.sent) := decide_eq_decide.mpr (inv.hs p)
            rw [← es]
            exact if_neg hv
          rw [eG] at hf2
          rw [eG, eI, eW, List.filter_nil, List.append_nil] at db3
          rw [decide_eq_false hv] at hr
          exact mk _ _ _ e0 _ _ ⟨_, _, _, _, j0, i1, j2, sn, had, snt, zs ++ [(r, f1, f2)], ws', rfl, db3.found (z := (r, f1, f2)) ⟨hr, hf1, hf2⟩ n1 n2, inv, by omega, by omega⟩
      | po =>
        have e0 : runF rb d (ds.take (i + 1)) = (n, (powerF rb S).1, Us ++ [(powerF rb S).2]) := by rw [est, hSt]; rfl
        refine ⟨_, rfl, ai, _, 0, _, rfl, rfl, hT3, rfl, rfl, _, rfl, ?_⟩
        refine ⟨_, rfl, ai, _, 0, _, rfl, rfl, hT3, rfl, rfl, _, rfl, ?_⟩
        have hmy2 := st2.s _ _ hmy0
        refine ⟨_, rfl, by show 1 ≤ sizeLine; decide, fun g1 hg1 => ?_⟩
        have z1 := same_new (o := .lst [.int n]) hg1
        have ek : (m1 : Int) * (if decide (0 < n) = true then 1 else 0) = ((if 0 < n then m1 else 0 : Nat) : Int) := by
          by_cases c : 0 < n
          · rw [decide_eq_true c, if_pos c, if_pos rfl, Int.mul_one]
          · rw [decide_eq_false c, if_neg c, if_neg Bool.false_ne_true, Int.mul_zero]; rfl
        have hmm : (if 0 < n then m1 else 0 : Nat) ≤ 2 := by split <;> omega
        refine ⟨_, rfl, my, _, 1, _, rfl, rfl, SqL.of (z1 _ _ hmy2), rfl, _, rfl, _, _, rfl, rfl, .inr ⟨_, rfl, _, _, rfl, rfl, wide_mul (a := 10) (b := 10) (by rw [Int.natAbs_natCast]; exact Nat.lt_of_le_of_lt hm1 (by decide)) (by cases decide (0 < n) <;> decide) (by decide) (by decide) (by decide), g1, _, _, rfl, rfl, upd_same, ?_, ?_, ?_, fun g2 hg2 => ?_⟩⟩
        · rw [ek]; omega
        · rw [ek]; omega
        · rw [ek]
          show 1 * (((if 0 < n then m1 else 0 : Nat) : Int)).toNat ≤ sizeLine
          exact Nat.le_of_lt (lt_line (by omega))
        rw [ek, rep] at *
        have z2 := same_new (o := .lst ((List.replicate (if 0 < n then m1 else 0) n).map V.int)) hg2
        have z12 := z1.trans z2
        have st3 := st2.same z12
        generalize hmq : (if 0 < n then m1 else 0 : Nat) = mm at *
        rcases inv.la with ⟨hn, hag, hls⟩ | ⟨hn, hag, hls⟩
        · obtain ⟨ms, ep⟩ := power25n hb inv.tf hls
          rw [ep] at e0
          have c : mm = 0 := by rw [← hmq, if_neg (by omega)]
          subst c
          exact t2 _ _ i0 i1 g2 S.valid 0 n S.age false ws S _ (by decide) (fun σ H' h => h) e0 rfl rfl rfl rfl (by rw [List.replicate_zero, List.append_nil]; exact inv) rfl (by omega) (by rw [app0]; exact st3) upd_same ((st2.same z1).fresh hg2)
        · obtain ⟨ms, ep⟩ := power25 hb inv.tf hls
          rw [ep] at e0
          have c : mm = m1 := by rw [← hmq, if_pos (by omega)]
          subst c
          refine t2 _ _ i0 i1 g2 S.valid mm n S.age false ws _ _ hmm (fun σ H' h => h) e0 rfl rfl rfl rfl ⟨inv.tf, inv.aj, inv.n0, .inr ⟨hn, hag, hls⟩, cv_sorted inv.vp inv.vb, fun q hq => ?_, inv.ha, fun q => ?_⟩ rfl (by omega) (by rw [app0]; exact st3) upd_same ((st2.same z1).fresh hg2)
          · rcases mem_cv.mp hq with h | h
            · exact inv.vb q h
            · rw [h.1]; exact Int.le_refl _
          · show q ∈ snt ++ List.replicate mm n ↔ q ∈ cv mm n S.sent
            rw [List.mem_append, mem_cv, inv.hs q, List.mem_replicate]
            exact ⟨fun h => h.elim .inl (fun h => .inr ⟨h.2, by omega⟩), fun h => h.elim .inl (fun h => .inr ⟨by omega, h.1⟩)⟩
      | da =>
        have e0 : runF rb d (ds.take (i + 1)) = (n, (dayF d rb S).1, Us ++ [(dayF d rb S).2]) := by rw [est, hSt]; rfl
        refine ⟨_, rfl, ai, _, 0, _, rfl, rfl, hT3, rfl, rfl, _, rfl, ?_⟩
        refine ⟨_, rfl, ai, _, 0, _, rfl, rfl, hT3, rfl, rfl, _, rfl, ?_⟩
        rcases inv.la with ⟨hn, hag, hls⟩ | ⟨hn, ⟨a, hag⟩, hls⟩
        · rw [day25n hag] at e0
          rw [hag]
          refine ⟨_, rfl, rfl, _, rfl, ?_⟩
          exact t2 _ H2 i0 i1 lt S.valid 0 n none false ws S T0 (by decide) (fun σ H' h => h) e0 hag rfl rfl rfl (by rw [List.replicate_zero, List.append_nil]; exact inv) rfl (by omega) (by rw [show T0.wrongs = [] from rfl, app0]; exact st2) hlt2 nlt
        · obtain ⟨ms, ed⟩ := day25 hb (d := d) hag
          rw [ed] at e0
          rw [hag]
          refine ⟨_, rfl, rfl, _, rfl, ?_⟩
          refine ⟨_, rfl, _, _, rfl, rfl, ?_⟩
          refine ⟨_, rfl, _, rfl, rfl, _, rfl, ?_⟩
          by_cases c : a + 1 = d
          · rw [decide_eq_true (congrArg V.int c)]
            refine ⟨Nat.zero_le _, fun k1 hk1 => ⟨_, rfl, bx, _, 1, 1, rfl, rfl, same_new hk1 _ _ st2.hb, rfl, ?_⟩⟩
            have z1 := same_new (o := .lst []) hk1
            have db3 := (st2.same z1).box (k0 := i0) (k1 := k1) (k2 := i2) (n1 := []) (z1 _ _ st2.h0) upd_same (z1 _ _ st2.h2) (st2.ni _ (by simp)) (st2.fresh hk1) (st2.ni _ (by simp))
            rw [if_pos c] at e0
            exact t2 _ _ i0 k1 lt [] 0 n (some (a + 1)) false ws _ _ (by decide) (fun σ H' h => h) e0 rfl rfl rfl rfl (by rw [List.replicate_zero, List.append_nil]; exact ⟨inv.tf, inv.aj, inv.n0, .inr ⟨hn, ⟨_, rfl⟩, hls⟩, .nil, fun q h => (by cases h), inv.ha, inv.hs⟩) rfl (Nat.zero_le _) (by rw [app0]; exact db3) ((upd_ne (n3 nlt).2.2).trans (z1 _ _ hlt2)) nlt
          · rw [decide_eq_false (fun z => c (V.int.inj z))]
            rw [if_neg c] at e0
            exact t2 _ H2 i0 i1 lt S.valid 0 n (some (a + 1)) false ws _ _ (by decide) (fun σ H' h => h) e0 rfl rfl rfl rfl (by rw [List.replicate_zero, List.append_nil]; exact ⟨inv.tf, inv.aj, inv.n0, .inr ⟨hn, ⟨_, rfl⟩, hls⟩, inv.vp, inv.vb, inv.ha, inv.hs⟩) rfl (by omega) (by rw [app0]; exact st2) hlt2 nlt
      | br l =>
        obtain ⟨ms, eb⟩ := bring25 hb (p := n + 1) (l := l) inv.tf
        have e0 : runF rb d (ds.take (i + 1)) = (n + 1, (bringF rb (n + 1) l true S).1, Us ++ [(bringF rb (n + 1) l true S).2]) := by rw [est, hSt]; rfl
        rw [eb] at e0
        refine ⟨_, rfl, ai, _, 0, _, rfl, rfl, hT3, rfl, rfl, _, rfl, ?_⟩
        refine ⟨_, rfl, _, _, rfl, rfl, _, _, _, rfl, ?_⟩
        have inv' : Inv25 (n + 1) { S with ajar := false, age := some 0, last := some (n + 1), tf := "free", inside := if l = true then S.inside ++ [n + 1] else S.inside, valid := cv m0 (n + 1) S.valid, sent := cv m0 (n + 1) S.sent } had (snt ++ List.replicate m0 (n + 1)) := by
          have h0 := inv.n0
          refine ⟨rfl, rfl, by omega, .inr ⟨by omega, ⟨0, rfl⟩, rfl⟩, cv_sorted inv.vp (fun q hq => by have := inv.vb q hq; omega), fun q hq => ?_, inv.ha, fun q => ?_⟩
          · rcases mem_cv.mp hq with h | h
            · have := inv.vb q h; omega
            · rw [h.1]; exact Int.le_refl _
          · show q ∈ snt ++ List.replicate m0 (n + 1) ↔ q ∈ cv m0 (n + 1) S.sent
            rw [List.mem_append, mem_cv, inv.hs q, List.mem_replicate]
            exact ⟨fun h => h.elim .inl (fun h => .inr ⟨h.2, by omega⟩), fun h => h.elim .inl (fun h => .inr ⟨by omega, h.1⟩)⟩
        have rest : ∀ (D : Ends) (H4 : Hp) (ws' : List Addr), (∀ σ H', Du25 K H d my u F Wl bx rb ds (i + 1) σ H' → D.nx σ H') → Db K H H4 F Wl bx i0 i1 i2 sn S.inside S.valid had snt zs Us ws' (fl 0 Us ++ (if (l && !S.inside.isEmpty) = true then [("two" : Str)] else []).map fun x => (x, i)) →
            (tSeq (tSeq (tAsg (tOp rCat (tOp (rIxL K) (tVar 6) (tC (V.int 0))) (tOp rRep (tLst (tCons (tVar 7) tNil)) (tCB (fun xs H Q => (∃ i, xs = [V.int i] ∧ Q (V.int i) H) ∨ ∃ k, xs = [V.bl k] ∧ Q (V.int (if k = true then 1 else 0)) H) (tCons (tOp (rIxT K) (tVar 10) (tC (V.int 1))) tNil)))) (gSub (tVar 6) (tC (V.int 0)) rSetL)) (tAsg (tOp rRep (tLst (tCons (tVar 7) tNil)) (tOp (rIxL K) (tVar 1) (tC (V.int 0)))) (gName 11))) (tSeq (tIfS (tAnd (tTest (tOp (rNeD K) (tVar 11) (tLst tNil))) (tTest (tOp (rIn K true) (tVar 7) (tOp (rIxL K) (tVar 6) (tC (V.int 1)))))) (tAsg (tOp rCat (tOp (rIxL K) (tVar 6) (tC (V.int 1))) (tLst (tCons (tVar 7) tNil))) (gSub (tVar 6) (tC (V.int 1)) rSetL)) tNext) (tSeq (tAsg (tOp rCat (tVar 5) (tVar 11)) (gName 5)) (tDrop (tBM K "list" rAppend (tVar 3) (tCons (tTup (tCons (tVar 11) (tCons (tVar 12) (tCons (tLst tNil) tNil)))) tNil)))))) D [some (.int d), some (.ref my), some (.ref u), some (.ref F), some (.ref Wl), some (.ref sn), some (.ref bx), some (.int (n + 1)), some (oV (some 0)), some (.int (i : Int)), some (.ref ai), some (.ref lt), some (.bl true)] H4 := by
          intro D H4 ws' hD db4
          have hT4 := same_tup db4.s hT2
          refine ⟨_, rfl, bx, _, 0, _, rfl, rfl, SqL.of db4.hb, rfl, _, rfl, by show 1 ≤ sizeLine; decide, fun g1 hg1 => ?_⟩
          have z1 := same_new (o := .lst [.int (n + 1)]) hg1
          have erep : (List.replicate (if l = true then (1 : Int) else 0).toNat [V.int (n + 1)]).flatten = (if l = true then [n + 1] else []).map V.int := by cases l <;> rfl
          refine ⟨_, rfl, ai, _, 1, _, rfl, rfl, same_tup z1 hT4, rfl, .inr ⟨l, rfl, g1, _, _, rfl, rfl, upd_same, by cases l <;> decide, by cases l <;> decide, (by
            cases l with
            | true => show 1 * 1 ≤ sizeLine; decide
            | false => show 1 * 0 ≤ sizeLine; decide), fun g2 hg2 => ?_⟩⟩
          rw [erep] at *
          have z2 := same_new (o := .lst ((if l = true then [n + 1] else []).map V.int)) hg2
          have z12 := z1.trans z2
          refine ⟨i0, g2, _, _, rfl, rfl, z12 _ _ db4.h0, upd_same, by rw [List.length_map, List.length_map]; exact Nat.le_of_lt (lt_line (by cases l <;> (show _ + _ ≤ 1000000) <;> simp <;> omega)), fun k0 hk0 => ⟨_, rfl, bx, _, 0, 0, rfl, rfl, same_new hk0 _ _ (z12 _ _ db4.hb), rfl, ?_⟩⟩
          have z3 := same_new (o := .lst (S.inside.map V.int ++ (if l = true then [n + 1] else []).map V.int)) hk0
          have z13 := z12.trans z3
          have ein : S.inside.map V.int ++ (if l = true then [n + 1] else []).map V.int = (if l = true then S.inside ++ [n + 1] else S.inside).map V.int := by
            cases l with
            | true => rw [if_pos rfl, if_pos rfl, List.map_append]
            | false => rw [if_neg Bool.false_ne_true, if_neg Bool.false_ne_true]; exact List.append_nil _
          have db5 := (db4.same z13).box (k0 := k0) (k1 := i1) (k2 := i2) (n0 := if l = true then S.inside ++ [n + 1] else S.inside) (by rw [upd_same, ein]) (z13 _ _ db4.h1) (z13 _ _ db4.h2) ((db4.same z12).fresh hk0) (db4.ni _ (by simp)) (db4.ni _ (by simp))
          show Ends.nx _ _ (upd (upd (upd (upd H4 g1 (.lst [.int (n + 1)])) g2 (.lst ((if l = true then [n + 1] else []).map V.int))) k0 (.lst (S.inside.map V.int ++ (if l = true then [n + 1] else []).map V.int))) bx (.lst [.ref k0, .ref i1, .ref i2]))
          generalize upd (upd (upd (upd H4 g1 (.lst [.int (n + 1)])) g2 (.lst ((if l = true then [n + 1] else []).map V.int))) k0 (.lst (S.inside.map V.int ++ (if l = true then [n + 1] else []).map V.int))) bx (.lst [.ref k0, .ref i1, .ref i2]) = H5 at db5
          refine ⟨_, rfl, by show 1 ≤ sizeLine; decide, fun g3 hg3 => ?_⟩
          have z5 := same_new (o := .lst [.int (n + 1)]) hg3
          refine ⟨_, rfl, my, _, 0, _, rfl, rfl, SqL.of (z5 _ _ (db5.s _ _ hmy0)), rfl, g3, _, _, rfl, rfl, upd_same, by omega, by omega, by show 1 * ((m0 : Int)).toNat ≤ sizeLine; exact Nat.le_of_lt (lt_line (by omega)), fun g4 hg4 => ?_⟩
          rw [rep] at *
          have z6 := same_new (o := .lst ((List.replicate m0 (n + 1)).map V.int)) hg4
          exact t2 D _ k0 i1 g4 S.valid m0 (n + 1) (some 0) true ws' _ _ hm0 hD e0 rfl rfl rfl rfl inv' rfl (by omega) ((db5.same z5).same z6) upd_same ((db5.same z5).fresh hg4)
        cases l with
        | false => exact ⟨_, rfl, ai, _, 1, _, rfl, rfl, hT3, rfl, _, rfl, rest _ H2 ws (fun σ H' h => h) (by
            show Db K H H2 F Wl bx i0 i1 i2 sn S.inside S.valid had snt zs Us ws (fl 0 Us ++ ([] : List Str).map _)
            rw [app0]
            exact st2)⟩
        | true =>
          refine ⟨_, rfl, ai, _, 1, _, rfl, rfl, hT3, rfl, _, rfl, ?_⟩
          refine ⟨_, rfl, bx, _, 0, _, rfl, rfl, SqL.of st2.hb, rfl, Nat.zero_le _, fun e he => ?_⟩
          have x1 := same_new (o := .lst []) he
          refine ⟨.list (S.inside.map PyData.int), .list [], .lst (SqL.of (x1 _ _ st2.h0)) (dp_flatInts K _ _), nilD upd_same, (sm_ints _).shaped (by decide), sm_nil.shaped (by decide), _, rfl, ?_⟩
          rw [eqv_nil]
          have st3 := st2.same x1
          generalize upd H2 e (.lst []) = H3 at st3
          cases hie : S.inside.isEmpty with
          | true =>
            rw [hie] at rest
            exact rest _ H3 ws (fun σ H' h => h) (by
              show Db K H H3 F Wl bx i0 i1 i2 sn S.inside S.valid had snt zs Us ws (fl 0 Us ++ ([] : List Str).map _)
              rw [app0]
              exact st3)
          | false =>
            rw [hie] at rest
            refine ⟨_, rfl, .inl ⟨rfl, _, SqL.of st3.hW⟩, _, rfl, by show 2 ≤ sizeLine; decide, fun tw htw => ?_⟩
            have x2 := same_new (o := .tup [.str "two", .int (i : Int)]) htw
            refine ⟨Wl, _, _, rfl, rfl, x2 _ _ st3.hW, by rw [List.length_map]; exact lt_line (by omega), ?_⟩
            exact rest _ _ (ws ++ [tw]) (fun σ H' h => h) ((st3.same x2).wrong (t := tw) (x := ("two", i)) upd_same)
    · rintro σ H1 ⟨o9, o10, o11, o12, i0, i1, i2, sn, had, snt, zs, ws, rfl, st1, inv, hhl, hsl⟩
      rw [show ds.take ((((us.map V.ref).length : Nat) : Int).toNat) = ds by rw [Int.toNat_natCast, hlen, List.take_length]] at st1 inv
      rw [show ds.take ((((us.map V.ref).length : Nat) : Int).toNat) = ds by rw [Int.toNat_natCast, hlen, List.take_length]]
      refine ⟨_, rfl, _, rfl, _, rfl, bx, _, 0, _, rfl, rfl, SqL.of st1.hb, rfl, _, rfl, bx, _, 1, _, rfl, rfl, SqL.of st1.hb, rfl, _, rfl, by show 5 ≤ sizeLine; decide, fun st hst => ⟨by show 3 ≤ sizeLine; decide, fun p hp => ?_⟩⟩
      have y1 := same_new (o := .tup [.bl false, .ref i0, .str "free", .ref i1, oV (runF rb d ds).2.1.age]) hst
      have y2 := same_new (o := .tup [.ref F, .ref Wl, .ref st]) hp
      have st2 := st1.same (y1.trans y2)
      exact q _ p F Wl st i0 i1 had snt st2.s upd_same ⟨zs, st2.hF, st2.hz⟩ ⟨ws, st2.hW, st2.hw⟩ (y2 _ _ upd_same) st2.h0 st2.h1 inv
theorem c_law_due (T : Txt K mg) : C8.Cal P w K mg base 2 "_law_due" (sp_law_due K) [] := by
  obtain ⟨fd, F⟩ := T.f_law_due
  exact ⟨_, fd, _, _, ok_law_due T F, T.g_law_due, F.kp, F.bindsN (fun _ _ _ _ _ _ us hl => match us, hl with | [_, _, _], _ => rfl), .nil⟩
end
end K25

namespace K25
open PySem PySem.Spec PyProof.Rows L2 My StX
theorem playable_snoc {ds : List Deed} {dd : Deed} (h : Playable ds) (hd : ∀ p t s, dd = Deed.code p t s → 1 ≤ p ∧ p ≤ (brs ds : Int)) (hl : ds.length < 100000000) : Playable (ds ++ [dd]) := by
  refine ⟨by rw [List.length_append]; exact hl, fun i p t s e => ?_⟩
  by_cases hi : i < ds.length
  · rw [List.getElem?_append_left hi] at e
    rw [List.take_append_of_le_length (Nat.le_of_lt hi)]
    exact h.2 i p t s e
  · have hi2 : i = ds.length := by
      have := (List.getElem?_eq_some_iff.mp e).1
      rw [List.length_append] at this
      have : i < ds.length + 1 := this
      omega
    subst hi2
    rw [List.getElem?_append_right (Nat.le_refl _), Nat.sub_self] at e
    have e2 : dd = Deed.code p t s := Option.some.inj e
    rw [List.take_left]
    exact hd p t s e2
theorem brs_one (ds : List Deed) (d : Deed) : brs (ds ++ [d]) = brs ds + (if isBr d then 1 else 0) := by
  unfold brs
  rw [List.countP_append, List.countP_singleton]
end K25

namespace K25
open PySem PySem.Spec PyProof.Rows L2 My StX
structure Pz (K : PySem.W.Frag) (p M t5 t6 : Addr) (as : List Addr) (m0 m1 : Nat) (H : Hp) (n : Nat) : Prop where
  hp : H p = some (.lst (as.map V.ref))
  sp : Sprs H as n
  hM : H M = some (.lst [.int (m0 : Int), .int (m1 : Int)])
  r5 : RuleAt K H t5 (rul m0)
  r6 : RuleAt K H t6 (rul m1)
structure Ld25 (K : PySem.W.Frag) (p R M A : Addr) (as qs us : List Addr) (rb : List RuleL) (m0 m1 : Nat) (ds : List Deed) (H : Hp) (n : Nat) : Prop where
  hp : H p = some (.lst (as.map V.ref))
  sp : Sprs H as n
  hR : H R = some (.lst (qs.map V.ref))
  hq : Paired (RuleAt K H) qs rb
  hM : H M = some (.lst [.int (m0 : Int), .int (m1 : Int)])
  nM : M ∉ as
  hA : H A = some (.lst (us.map V.ref))
  dd : DeedsAt K H (us.map V.ref) ds
  al : ∀ x ∈ ds, Dd25 x
  pl : Playable ds
section
variable {K : PySem.W.Frag} {p R M A t5 t6 : Addr} {as qs us : List Addr} {rb : List RuleL} {m0 m1 : Nat} {ds : List Deed} {H H' : Hp} {n m : Nat}
theorem Pz.same (h : Pz K p M t5 t6 as m0 m1 H n) (s : Same H H') : Pz K p M t5 t6 as m0 m1 H' n := ⟨s _ _ h.hp, h.sp.same s, s _ _ h.hM, same_tup s h.r5, same_tup s h.r6⟩
theorem Pz.draw {a : Addr} (h : Pz K p M t5 t6 as m0 m1 H n) (nM : M ∉ as) (ha : a ∈ as) (b : But [a] H H') (s : SpringAt H' a m) (e : n ≤ m) : Pz K p M t5 t6 as m0 m1 H' m :=
  ⟨rawS b (h.sp _ ha) h.hp (refs_no _), h.sp.draw b s e, b _ _ (fun z => nM (by rw [List.mem_singleton.mp z]; exact ha)) h.hM, But.tupS b (h.sp _ ha) h.r5, But.tupS b (h.sp _ ha) h.r6⟩
theorem Ld25.same (h : Ld25 K p R M A as qs us rb m0 m1 ds H n) (s : Same H H') : Ld25 K p R M A as qs us rb m0 m1 ds H' n := ⟨s _ _ h.hp, h.sp.same s, s _ _ h.hR, paired_map (fun _ _ _ hh => same_tup s hh) h.hq, s _ _ h.hM, h.nM, s _ _ h.hA, DeedsAt.same s h.dd, h.al, h.pl⟩
theorem Ld25.mono (h : Ld25 K p R M A as qs us rb m0 m1 ds H n) (e : n ≤ m) : Ld25 K p R M A as qs us rb m0 m1 ds H m := ⟨h.hp, h.sp.mono e, h.hR, h.hq, h.hM, h.nM, h.hA, h.dd, h.al, h.pl⟩
theorem Ld25.draw {a : Addr} (h : Ld25 K p R M A as qs us rb m0 m1 ds H n) (ha : a ∈ as) (b : But [a] H H') (s : SpringAt H' a m) (e : n ≤ m) : Ld25 K p R M A as qs us rb m0 m1 ds H' m :=
  ⟨rawS b (h.sp _ ha) h.hp (refs_no _), h.sp.draw b s e, rawS b (h.sp _ ha) h.hR (refs_no _), paired_map (fun _ _ _ hh => But.tupS b (h.sp _ ha) hh) h.hq, b _ _ (fun z => h.nM (by rw [List.mem_singleton.mp z]; exact ha)) h.hM, h.nM, rawS b (h.sp _ ha) h.hA (refs_no _), paired_map (fun x y _ hx => by
    obtain ⟨c, e, hc⟩ := hx
    exact ⟨c, e, But.tupS b (h.sp _ ha) hc⟩) h.dd, h.al, h.pl⟩
theorem Ld25.add {t : Addr} {x : Deed} (h : Ld25 K p R M A as qs us rb m0 m1 ds H n) (nA : A ≠ p ∧ A ≠ R ∧ A ≠ M) (ht : DeedAt K H (.ref t) x) (hx : Dd25 x) (hp2 : Playable (ds ++ [x])) : Ld25 K p R M A as qs (us ++ [t]) rb m0 m1 (ds ++ [x]) (upd H A (.lst (us.map V.ref ++ [.ref t]))) n := by
  have dp : ∀ (v : V) (y : Deed), DeedAt K H v y → DeedAt K (upd H A (.lst (us.map V.ref ++ [.ref t]))) v y := fun v y ⟨c, e, hc⟩ => ⟨c, e, tupU h.hA hc⟩
  refine ⟨(upd_ne nA.1.symm).trans h.hp, h.sp.put h.hA (refs_no _), (upd_ne nA.2.1.symm).trans h.hR, paired_map (fun _ _ _ hh => tupU h.hA hh) h.hq, (upd_ne nA.2.2.symm).trans h.hM, h.nM, by rw [upd_same, List.map_append]; rfl, ?_, fun y hy => ?_, hp2⟩
  · rw [List.map_append]
    exact Paired.snoc (paired_map (fun v y _ hv => dp v y hv) h.dd) (dp _ _ ht)
  · rcases List.mem_append.mp hy with hy | hy
    · exact h.al y hy
    · rw [List.mem_singleton.mp hy]; exact hx
end
theorem rul_good {m : Nat} (h : m ≤ 2) : GoodRule (rul m) := by
  refine ⟨?_, fun x hx => ?_⟩
  · unfold rul
    rw [List.length_cons, List.length_append, List.length_replicate]
    show m + 1 + 1 ≤ 6
    omega
  · unfold rul at hx
    rcases List.mem_cons.mp hx with e | hx
    · rw [e]; decide
    · rcases List.mem_append.mp hx with hx | hx
      · rw [(List.mem_replicate.mp hx).2]; decide
      · rw [List.mem_singleton.mp hx]; decide
section
variable {P : Program} {w : World} {K : PySem.W.Frag} {mg : Str → Option Value} {base : Heap}
def sp_law (K : PySem.W.Frag) : Sp := fun vs H Q _ => ∃ (a : Addr) (ns : List Int), vs = [.ref a] ∧ SqL K H a (ns.map V.int) ∧ ns.length ≤ 63 ∧ ∀ H', Q (.bl true) H'
set_option maxHeartbeats 2000000 in
theorem ok_law (T : Txt K mg) {fd : FuncData} (F : FunD K d_law.name d_law.qual d_law.params d_law.body d_law.scope (d_law.dvs K) (d_law.kws K) (He.fAd K d_law.at_) fd) : FnOk P w K mg base C8.CX0 10 (He.fAd K d_law.at_) fd ["script"] (sp_law K) := by
  have c_law_stands := c_law_stands (P := P) (w := w) (base := base) T
  have c_law_wrong := c_law_wrong (P := P) (w := w) (base := base) T
  have c_law_asked := c_law_asked (P := P) (w := w) (base := base) T
  have c_law_due := c_law_due (P := P) (w := w) (base := base) T
  have c_law_made := c_law_made (P := P) (w := w) (base := base) T
  have c_law_drop := c_law_drop (P := P) (w := w) (base := base) T
  have c_law_act := c_law_act (P := P) (w := w) (base := base) T
  have c_law_springs := c_law_springs (P := P) (w := w) (base := base) T
  refine F.ok sc_law (fun vs H Q E h => ?_) (fun cdv A outer s H vs Q E hr h => ?_)
  · obtain ⟨a, ns, rfl, _⟩ := h
    rfl
  · have hu := L2.hu_of hr
    obtain ⟨a, ns, rfl, hS, hl, q⟩ := h
    refine ⟨_, (PSs.nox ((pss_cons (ps_set (i := 1) sc_law.nd rfl (by first | exact Or.inl rfl | exact Or.inr rfl) (C8.pe_c c_law_springs hr (by decide) rfl (pa_cons (pv 0) pa_nil)))
  (pss_cons (ps_set (i := 2) sc_law.nd rfl (by first | exact Or.inl rfl | exact Or.inr rfl) (pe_ix (My.ix_listK (K := K) rfl) (pv 1) pe_int (fun _ _ => rfl)))
  (pss_cons (ps_par (i := 3) (j := 4) (by rfl) sc_law.nd rfl rfl (by decide) rfl rfl (pa_cons (pe_op op_add pe_int (C8.pe_c c_law_drop hr (by decide) rfl (pa_cons (pv 2) (pa_cons pe_int pa_nil)))) (pa_cons (pe_lst (pa_cons (C8.pe_c c_law_drop hr (by decide) rfl (pa_cons (pv 2) (pa_cons pe_int pa_nil))) (pa_cons (C8.pe_c c_law_drop hr (by decide) rfl (pa_cons (pv 2) (pa_cons pe_int pa_nil))) pa_nil))) pa_nil)) (by rfl))
  (pss_cons (ps_set (i := 5) sc_law.nd rfl (by first | exact Or.inl rfl | exact Or.inr rfl) (pe_op (My.catAK (K := K) rfl) (pe_op (My.catAK (K := K) rfl) (pe_tup (pa_cons pe_str pa_nil)) (pe_op (My.repAK (K := K) rfl) (pe_tup (pa_cons pe_str pa_nil)) (pe_ix (My.ix_listK (K := K) rfl) (pv 4) pe_int (fun _ _ => rfl)))) (pe_tup (pa_cons pe_str pa_nil))))
  (pss_cons (ps_set (i := 6) sc_law.nd rfl (by first | exact Or.inl rfl | exact Or.inr rfl) (pe_op (My.catAK (K := K) rfl) (pe_op (My.catAK (K := K) rfl) (pe_tup (pa_cons pe_str pa_nil)) (pe_op (My.repAK (K := K) rfl) (pe_tup (pa_cons pe_str pa_nil)) (pe_ix (My.ix_listK (K := K) rfl) (pv 4) pe_int (fun _ _ => rfl)))) (pe_tup (pa_cons pe_str pa_nil))))
  (pss_cons (ps_set (i := 7) sc_law.nd rfl (by first | exact Or.inl rfl | exact Or.inr rfl) (pe_lst (pa_cons (pv 5) (pa_cons (pe_tup pa_nil) (pa_cons (pe_tup pa_nil) (pa_cons (pe_tup pa_nil) (pa_cons (pe_tup pa_nil) (pa_cons (pe_tup pa_nil) (pa_cons (pe_tup (pa_cons pe_str pa_nil)) (pa_cons (pv 6) pa_nil))))))))))
  (pss_cons (ps_if (pt_cmpR op_eq (C8.pe_c c_law_drop hr (by decide) rfl (pa_cons (pv 2) (pa_cons pe_int pa_nil))) pe_int (nomark _))
  (pss_one (ps_set (i := 7) sc_law.nd rfl (by first | exact Or.inl rfl | exact Or.inr rfl) (pe_lst (pa_cons (pe_tup pa_nil) (pa_cons (pv 5) (pa_cons (pv 5) (pa_cons (pe_tup pa_nil) (pa_cons (pe_tup pa_nil) (pa_cons (pe_tup pa_nil) (pa_cons (pe_tup (pa_cons pe_str pa_nil)) (pa_cons (pv 6) pa_nil)))))))))))
  pss_nil)
  (pss_cons (ps_par (i := 8) (j := 9) (by rfl) sc_law.nd rfl rfl (by decide) rfl rfl (pa_cons (pe_lst pa_nil) (pa_cons pe_int pa_nil)) (by rfl))
  (pss_cons (ps_for PassesOwn.never rfl (My.pi_listK (K := K) rfl (pv 1)) (pg_name (i := 10) sc_law.nd rfl (by first | exact Or.inl rfl | exact Or.inr rfl))
  (pss_one (ps_for PassesOwn.never rfl (pi_range1 (by rfl) T.range (pa_cons (pe_op op_add pe_int (C8.pe_c c_law_drop hr (by decide) rfl (pa_cons (pv 10) (pa_cons pe_int pa_nil)))) pa_nil)) (pg_name (i := 11) sc_law.nd rfl (by first | exact Or.inl rfl | exact Or.inr rfl))
  (pss_cons (ps_expr (My.pe_bmK (K := K) rfl PySem.F.plainAttrs_list PySem.F.slot_list_append PySem.F.type_list_append mt_append (pv 8) (pa_cons (C8.pe_c c_law_act hr (by decide) rfl (pa_cons (pv 10) (pa_cons (pv 9) pa_nil))) pa_nil)))
  (pss_one (ps_set (i := 9) sc_law.nd rfl (by first | exact Or.inl rfl | exact Or.inr rfl) (pe_op op_add (pv 9) (pe_callTy call_int1 (by rfl) T.int (by decide +kernel) (pa_cons (pe_cmpR op_eq (pe_ix (My.ix_tupK (K := K) rfl) (pe_ix (My.ix_listK (K := K) rfl) (pv 8) (pe_un un_neg pe_int) (fun _ _ => rfl)) pe_int (fun _ _ => rfl)) pe_str (nomark _)) pa_nil)))))))))
  (pss_cons (ps_set (i := 12) sc_law.nd rfl (by first | exact Or.inl rfl | exact Or.inr rfl) (C8.pe_c c_law_made hr (by decide) rfl (pa_cons (pv 3) (pa_cons (pv 7) pa_nil))))
  (pss_cons (ps_asg (C8.pe_c c_law_due hr (by decide) rfl (pa_cons (pv 3) (pa_cons (pv 4) (pa_cons (pv 8) pa_nil)))) (My.pg_tupK (K := K) (n := 3) rfl rfl (pgs_cons (pg_name (i := 13) sc_law.nd rfl (by first | exact Or.inl rfl | exact Or.inr rfl)) (pgs_cons (pg_name (i := 14) sc_law.nd rfl (by first | exact Or.inl rfl | exact Or.inr rfl)) (pgs_cons (pg_name (i := 15) sc_law.nd rfl (by first | exact Or.inl rfl | exact Or.inr rfl)) pgs_nil)))))
  (pss_cons (ps_if (PW.pt (pw_or (pt_not (pt_val (C8.pe_c c_law_asked hr (by decide) rfl (pa_cons (pv 12) (pa_cons (pv 8) (pa_cons (pv 13) pa_nil)))))) (pw_or1 (pt_not (pt_val (C8.pe_c c_law_wrong hr (by decide) rfl (pa_cons (pv 12) (pa_cons (pv 8) (pa_cons (pv 14) pa_nil)))))))))
  (pss_one (ps_ret pe_bl))
  pss_nil)
  (pss_one (ps_ret (C8.pe_c c_law_stands hr (by decide) rfl (pa_cons (pv 12) (pa_cons (pv 8) (pa_cons (pv 15) pa_nil)))))))))))))))))))), ?_⟩
    refine ⟨_, rfl, a, ns, rfl, hS, hl, fun H1 p as hp0 s1 hp1 hne hasl has => ?_⟩
    obtain ⟨a0, ha0, at0⟩ : ∃ a0, a0 ∈ as ∧ atI (as.map V.ref) 0 = some (.ref a0) := by
      cases as with
      | nil => exact absurd rfl hne
      | cons x l => exact ⟨x, List.mem_cons_self .., atI_nat (show ((x :: l).map V.ref)[0]? = some (.ref x) from rfl)⟩
    have sp1 : Sprs H1 as 1 := fun x hx => (has x hx).2
    have lt100 : ∀ m : Nat, m ≤ 5000 → m < 2 ^ 100 := fun m h => Nat.lt_of_le_of_lt h (by decide)
    have lt99 : ∀ m : Nat, m ≤ 5000 → m < 2 ^ 99 := fun m h => Nat.lt_of_le_of_lt h (by decide)
    refine ⟨_, rfl, p, _, 0, _, rfl, rfl, SqL.of hp1, at0, ?_⟩
    refine ⟨_, rfl, a0, 1, 6, rfl, sp1 _ ha0, by decide, by decide, by decide, fun H2 kd b2 s2 kd0 kd1 => ⟨_, _, rfl, rfl, ?_⟩⟩
    have sp2 := sp1.draw b2 s2 (by decide)
    have hp2 := rawS b2 (sp1 _ ha0) hp1 (refs_no _)
    generalize hdd : 1 + kd = d
    have hd1 : 1 ≤ d := by omega
    have hd30 : d ≤ 30 := by omega
    refine ⟨_, rfl, a0, 2, 3, rfl, sp2 _ ha0, by decide, by decide, by decide, fun H3 k0 b3 s3 k00 k01 => ?_⟩
    have sp3 := sp2.draw b3 s3 (by decide)
    have hp3 := rawS b3 (sp2 _ ha0) hp2 (refs_no _)
    refine ⟨_, rfl, a0, 3, 3, rfl, sp3 _ ha0, by decide, by decide, by decide, fun H4 k1 b4 s4 k10 k11 => ⟨by show 2 ≤ sizeLine; decide, fun M hM => ⟨_, _, rfl, ?_⟩⟩⟩
    have sp4 := sp3.draw b4 s4 (by decide)
    have hp4 := rawS b4 (sp3 _ ha0) hp3 (refs_no _)
    obtain ⟨m0, rfl⟩ : ∃ m : Nat, k0 = (m : Int) := ⟨k0.toNat, by omega⟩
    obtain ⟨m1, rfl⟩ : ∃ m : Nat, k1 = (m : Int) := ⟨k1.toNat, by omega⟩
    have hm0 : m0 ≤ 2 := by omega
    have hm1 : m1 ≤ 2 := by omega
    have yM := same_new (o := .lst [.int (m0 : Int), .int (m1 : Int)]) hM
    have nM : M ∉ as := fun z => by
      obtain ⟨_, _, _, h, _⟩ := sp4 _ z
      rw [hM] at h
      cases h
    have sp5 := sp4.same yM
    have hp5 := yM _ _ hp4
    have hM5 : upd H4 M (.lst [.int (m0 : Int), .int (m1 : Int)]) M = some (.lst [.int (m0 : Int), .int (m1 : Int)]) := upd_same
    show Ends.nx _ _ (upd H4 M (.lst [.int (m0 : Int), .int (m1 : Int)]))
    generalize upd H4 M (.lst [.int (m0 : Int), .int (m1 : Int)]) = H5 at sp5 hp5 hM5
    have VR : ∀ (Hx : Hp) (σ : L2.St) (Q' : VK) (j : Int) (m : Nat), σ[4]? = some (some (.ref M)) → Hx M = some (.lst [.int (m0 : Int), .int (m1 : Int)]) → atI [V.int (m0 : Int), V.int (m1 : Int)] j = some (.int (m : Int)) → m ≤ 2 → (∀ H' t, Same Hx H' → RuleAt K H' t (rul m) → Q' (.ref t) H') →
        (tOp (rCatA K) (tOp (rCatA K) (tTup (tCons (tC (V.str "full")) tNil)) (tOp (rRepA K) (tTup (tCons (tC (V.str "code")) tNil)) (tOp (rIxL K) (tVar 4) (tC (V.int j))))) (tTup (tCons (tC (V.str "free")) tNil))) σ Hx Q' := by
      intro Hx σ Q' j m e4 hMx aj hm q'
      refine ⟨by show 1 ≤ sizeLine; decide, fun u1 h1 => ⟨by show 1 ≤ sizeLine; decide, fun u2 h2 => ?_⟩⟩
      have x1 := same_new (o := .tup [.str "full"]) h1
      have x2 := same_new (o := .tup [.str "code"]) h2
      have x12 := x1.trans x2
      -- behind the repeated one
      have fin : ∀ (H6 : Hp) (t : Addr), Same (upd (upd Hx u1 (.tup [.str "full"])) u2 (.tup [.str "code"])) H6 → SqT K H6 t ((List.replicate m ("code" : Str)).map V.str) → rCatA K (.ref u1) (.ref t) H6 (fun x H7 => (tTup (tCons (tC (V.str "free")) tNil)) σ H7 fun y H8 => rCatA K x y H8 Q') := by
        intro H6 t s6 ht
        have hu1 := (x2.trans s6) _ _ (upd_same : upd Hx u1 (.tup [.str "full"]) u1 = _)
        refine ⟨u1, t, _, _, rfl, rfl, SqT.of hu1, ht, by rw [List.length_map, List.length_replicate]; exact Nat.le_of_lt (lt_line (by show 1 + m ≤ 1000000; omega)), fun z => (by cases z), fun _ z => ?_, fun _ _ p3 h3 => ?_⟩
        · have hm0' : m = 0 := by
            cases m with
            | zero => rfl
            | succ m => cases z
          subst hm0'
          refine ⟨by show 1 ≤ sizeLine; decide, fun u4 h4 => ?_⟩
          have x4 := same_new (o := .tup [.str "free"]) h4
          refine ⟨u1, u4, _, _, rfl, rfl, SqT.of (x4 _ _ hu1), SqT.of upd_same, by show 1 + 1 ≤ sizeLine; decide, fun z => (by cases z), fun _ z => (by cases z), fun _ _ p5 h5 => ?_⟩
          have x5 := same_new (o := .tup [.str "full", .str "free"]) h5
          exact q' _ p5 (x12.trans (s6.trans (x4.trans x5))) (SqT.of upd_same)
        · refine ⟨by show 1 ≤ sizeLine; decide, fun u4 h4 => ?_⟩
          have x3 := same_new (o := .tup ([.str "full"] ++ (List.replicate m ("code" : Str)).map V.str)) h3
          have x4 := same_new (o := .tup [.str "free"]) h4
          refine ⟨p3, u4, _, _, rfl, rfl, SqT.of (x4 _ _ upd_same), SqT.of upd_same, by rw [List.length_append, List.length_map, List.length_replicate]; exact Nat.le_of_lt (lt_line (by show 1 + m + 1 ≤ 1000000; omega)), fun z => (by cases z), fun _ z => (by cases z), fun _ _ p5 h5 => ?_⟩
          have e : ([V.str "full"] ++ (List.replicate m ("code" : Str)).map V.str) ++ [V.str "free"] = (rul m).map V.str := by
            unfold rul
            rw [List.map_cons, List.map_append]
            rfl
          rw [e] at *
          have n5 := new_rule (K := K) (r := rul m) h5
          exact q' _ p5 (x12.trans (s6.trans (x3.trans (x4.trans n5.1)))) n5.2
      refine ⟨_, e4, M, _, j, _, rfl, rfl, SqL.of (x12 _ _ hMx), aj, u2, _, _, rfl, rfl, SqT.of upd_same, by simp, by omega, by omega, by show 1 ≤ 1000; decide, fun z => ?_, fun _ p2 hp2 => ?_⟩
      · have e1 : m = 1 := by omega
        subst e1
        exact fin _ u2 (Same.refl _) (SqT.of upd_same)
      · have e : (List.replicate ((m : Int)).toNat [V.str "code"]).flatten = (List.replicate m ("code" : Str)).map V.str := by
          rw [Int.toNat_natCast, List.flatten_replicate_singleton, List.map_replicate]
        rw [e] at *
        have x3 := same_new (o := .tup ((List.replicate m ("code" : Str)).map V.str)) hp2
        exact fin _ p2 x3 (SqT.of upd_same)
    refine VR H5 _ _ 0 m0 rfl hM5 rfl hm0 (fun H6 t5 s6 ht5 => ?_)
    refine VR H6 _ _ 1 m1 rfl (s6 _ _ hM5) rfl hm1 (fun H7 t6 s7 ht6 => ?_)
    have s67 := s6.trans s7
    have pz : Pz K p M t5 t6 as m0 m1 H7 4 := ⟨s67 _ _ hp5, sp5.same s67, s67 _ _ hM5, same_tup s7 ht5, ht6⟩
    -- what is left behind the rules
    have rest : ∀ (H8 : Hp) (R : Addr) (qs : List Addr) (rb : List RuleL), Pz K p M t5 t6 as m0 m1 H8 5 → H8 R = some (.lst (qs.map V.ref)) → Paired (RuleAt K H8) qs rb → Bk25 rb m0 m1 →
        (tSeq (tPar 8 9 (tCons (tLst tNil) (tCons (tC (V.int 0)) tNil))) (tSeq (tFor (iList K (tVar 1)) (gName 10) (tFor (iRng1 (tCons (tOp (rI0 fun i j => V.int (i + j)) (tC (V.int 1)) (tCall (sp_law_drop K) [] C8.E0 (tCons (tVar 10) (tCons (tC (V.int 2)) tNil)))) tNil)) (gName 11) (tSeq (tDrop (tBM K "list" rAppend (tVar 8) (tCons (tCall (sp_law_act K) [] C8.E0 (tCons (tVar 10) (tCons (tVar 9) tNil))) tNil))) (tAsg (tOp (rI0 fun i j => V.int (i + j)) (tVar 9) (tCB (fun xs H Q => (∃ i, xs = [V.int i] ∧ Q (V.int i) H) ∨ ∃ k, xs = [V.bl k] ∧ Q (V.int (if k = true then 1 else 0)) H) (tCons (tOp rEq (tOp (rIxT K) (tOp (rIxL K) (tVar 8) (tUn (rU fun i => V.int (-i)) (tC (V.int 1)))) (tC (V.int 0))) (tC (V.str "bring"))) tNil))) (gName 9))))) (tSeq (tAsg (tCall (sp_law_made K) [] C8.E0 (tCons (tVar 3) (tCons (tVar 7) tNil))) (gName 12)) (tSeq (tAsg (tCall (sp_law_due K) [] C8.E0 (tCons (tVar 3) (tCons (tVar 4) (tCons (tVar 8) tNil)))) (gTup K 3 (gCons (gName 13) (gCons (gName 14) (gCons (gName 15) gNil))))) (tSeq (tIfS (tOr (tNot (tB (tCall (sp_law_asked K) [] C8.E0 (tCons (tVar 12) (tCons (tVar 8) (tCons (tVar 13) tNil)))))) (tNot (tB (tCall (sp_law_wrong K) [] C8.E0 (tCons (tVar 12) (tCons (tVar 8) (tCons (tVar 14) tNil))))))) (tRet (tC (V.bl false))) tNext) (tRet (tCall (sp_law_stands K) [] C8.E0 (tCons (tVar 12) (tCons (tVar 8) (tCons (tVar 15) tNil)))))))))) { nx := fun x H' => Q V.non H', rt := Q } [some (.ref a), some (.ref p), some (.ref a0), some (.int d), some (.ref M), some (.ref t5), some (.ref t6), some (.ref R), none, none, none, none, none, none, none, none] H8 := by
      intro H8 R qs rb pz hR hq hb
      refine ⟨Nat.zero_le _, fun A hA => ⟨_, _, rfl, ?_⟩⟩
      have sA := same_new (o := .lst []) hA
      have nA : A ≠ p ∧ A ≠ R ∧ A ≠ M := ⟨(ne_of_none pz.hp hA).symm, (ne_of_none hR hA).symm, (ne_of_none pz.hM hA).symm⟩
      have pz9 := pz.same sA
      have st0 : Ld25 K p R M A as qs [] rb m0 m1 [] (upd H8 A (.lst [])) 5 := ⟨pz9.hp, pz9.sp, sA _ _ hR, paired_map (fun _ _ _ hh => same_tup sA hh) hq, pz9.hM, nM, upd_same, .nil, fun x h => (by cases h), ⟨Nat.zero_le _, fun i p t s e => (by cases e)⟩⟩
      show Ends.nx _ _ (upd H8 A (.lst []))
      generalize upd H8 A (.lst []) = H9 at st0
      refine ⟨_, rfl, p, rfl, ⟨_, SqL.of st0.hp⟩, ?_⟩
      refine for_list (K := K) (a := p) (xs := as.map V.ref) (fun i σ H' => ∃ (o10 o11 : Option V) (us : List Addr) (ds : List Deed), σ = [some (.ref a), some (.ref p), some (.ref a0), some (.int d), some (.ref M), some (.ref t5), some (.ref t6), some (.ref R), some (.ref A), some (.int (brs ds : Int)), o10, o11, none, none, none, none] ∧ Ld25 K p R M A as qs us rb m0 m1 ds H' (5 + 9 * i) ∧ ds.length ≤ 2 * i) ⟨_, _, [], [], rfl, st0, Nat.zero_le _⟩ (fun i σ H' _ y => ?_) ?_ ?_
      · obtain ⟨_, _, _, _, _, y, _⟩ := y
        exact SqL.of y.hp
      · rintro i y σ H10 hi ⟨o10, o11, us, ds, rfl, st1, hl1⟩
        obtain ⟨ai, hai, rfl⟩ := map_get hi
        have hmi : ai ∈ as := List.mem_of_getElem? hai
        have hi63 : i < 63 := Nat.lt_of_lt_of_le (List.getElem?_eq_some_iff.mp hai).1 hasl
        refine ⟨_, rfl, ai, 5 + 9 * i, 2, rfl, st1.sp _ hmi, lt100 _ (by omega), by decide, by decide, fun H11 kt b11 s11 kt0 kt1 => ?_⟩
        have st2 := st1.draw hmi b11 s11 (Nat.le_succ _)
        refine ⟨_, _, rfl, rfl, 1 + kt, rfl, by omega, by omega, ?_⟩
        refine for_range (lo := 0) (n := (1 + kt).toNat) (fun j σ H' => ∃ (o11 : Option V) (us2 : List Addr) (ds2 : List Deed), σ = [some (.ref a), some (.ref p), some (.ref a0), some (.int d), some (.ref M), some (.ref t5), some (.ref t6), some (.ref R), some (.ref A), some (.int (brs ds2 : Int)), some (.ref ai), o11, none, none, none, none] ∧ Ld25 K p R M A as qs us2 rb m0 m1 ds2 H' (5 + 9 * i + 1 + 4 * j) ∧ ds2.length = ds.length + j) ⟨_, us, ds, rfl, st2, rfl⟩ ?_ ?_
        · rintro j σ H12 hj ⟨o11, us2, ds2, rfl, st3, hl3⟩
          have hj2 : j < 2 := by omega
          have hul : us2.length = ds2.length := by
            have := st3.dd.length
            rw [List.length_map] at this
            exact this
          have hbl := brs_le ds2
          refine ⟨_, rfl, .inl ⟨rfl, _, SqL.of st3.hA⟩, _, rfl, _, rfl, ai, 5 + 9 * i + 1 + 4 * j, brs ds2, rfl, st3.sp _ hmi, lt99 _ (by omega), by omega, fun H13 t x b13 s13 ht13 hx => ?_⟩
          have st4 := st3.draw hmi b13 s13 (Nat.le_add_right _ _)
          have hx25 : Dd25 x := by
            rcases hx with ⟨l, rfl⟩ | rfl | rfl | ⟨p, t, rfl, _, _⟩
            · exact .br l
            · exact .po
            · exact .da
            · exact .co p t
          have hpl : Playable (ds2 ++ [x]) := playable_snoc st4.pl (fun p t s e => by
            rcases hx with ⟨l, rfl⟩ | rfl | rfl | ⟨p, t, rfl, h1, h2⟩
            · cases e
            · cases e
            · cases e
            · cases e; exact ⟨h1, h2⟩) (by omega)
          have st5 := st4.add nA ht13 hx25 hpl
          refine ⟨A, _, _, rfl, rfl, st4.hA, by rw [List.length_map]; exact lt_line (by omega), ?_⟩
          have w0 : atI x.vs 0 = some (.str x.w) := by cases x <;> rfl
          obtain ⟨tc, ec, htc⟩ := ht13
          cases ec
          refine ⟨_, rfl, _, rfl, _, rfl, A, _, -1, .ref t, rfl, rfl, SqL.of upd_same, atI_last _ _, t, _, 0, _, rfl, rfl, tupU st4.hA htc, w0, rfl, .inr ⟨_, rfl, _, _, rfl, rfl, ?_⟩⟩
          have ebr : ((brs ds2 : Int) + if decide (V.str x.w = V.str "bring") = true then 1 else 0) = ((brs (ds2 ++ [x]) : Nat) : Int) := by
            rw [brs_one]
            cases x <;> rfl
          exact ⟨_, us2 ++ [t], ds2 ++ [x], by rw [← ebr]; rfl, st5.mono (by omega), by rw [List.length_append]; show ds2.length + 1 = _; omega⟩
        · rintro σ H12 ⟨o11, us2, ds2, rfl, st3, hl3⟩
          exact ⟨_, _, us2, ds2, rfl, st3.mono (by omega), by omega⟩
      rintro σ H10 ⟨o10, o11, us, ds, rfl, st1, hl1⟩
      rw [List.length_map] at st1 hl1
      have hgb := hb.g
      refine ⟨_, rfl, _, rfl, R, d, qs, rb, rfl, SqL.of st1.hR, hd1, hd30, st1.hq, hgb.len, hgb.good, fun H11 W hW0 s11 hBk => ?_⟩
      have st2 := st1.same s11
      refine ⟨_, rfl, _, rfl, _, rfl, M, A, d, m0, m1, rb, us, ds, rfl, st2.hM, hm0, hm1, hb, st2.hA, st2.dd, st2.al, by omega, fun H12 pt F Wl st il yl had snt s12 hpt hF hW hst hil hyl inv => ?_⟩
      refine ⟨pt, _, rfl, SqT.of hpt, rfl, _, _, rfl, _, _, rfl, _, _, rfl, rfl, ?_⟩
      have st3 := st2.same s12
      have hBk12 := hBk.same s12
      have hlen : (us.map V.ref).length = ds.length := st3.dd.length
      have hbd := runF_bd (d := d) hgb ds ds.length (Nat.le_refl _)
      rw [List.take_of_length_le (Nat.le_refl _)] at hbd
      refine ⟨_, rfl, _, rfl, _, rfl, W, A, F, d, rb, us.map V.ref, ds, rfl, hBk12, hgb, SqL.of st3.hA, st3.dd, st3.pl, by omega, hF, fun U hU => ?_, fun H13 s13 => ⟨true, rfl, ?_⟩⟩
      · obtain ⟨l1, l2⟩ := bdU_of hgb (d := d) (ds := ds) (by omega) U hU
        omega
      have st4 := st3.same s13
      refine ⟨_, rfl, _, rfl, _, rfl, W, A, Wl, d, rb, us.map V.ref, ds, rfl, hBk12.same s13, hgb, SqL.of st4.hA, st4.dd, st4.pl, by omega, hW.same s13, fl_words 0 _ (run_words rb d ds), fun H14 s14 => ⟨true, rfl, ?_⟩⟩
      have s34 := s13.trans s14
      have st5 := st3.same s34
      have hv : (runF rb d ds).2.1.valid.length ≤ 16 * ds.length := hbd.v
      have hin : (runF rb d ds).2.1.inside.length ≤ 16 * ds.length := hbd.i
      refine ⟨_, rfl, _, rfl, _, rfl, W, A, st, d, rb, us.map V.ref, ds, rfl, hBk12.same s34, hgb, SqL.of st5.hA, st5.dd, st5.pl, by omega, by omega, ⟨il, yl, _, ?_, s34 _ _ hil, s34 _ _ hyl, List.Perm.refl _, inv.vp⟩, by rw [inv.tf]; decide +kernel, by omega, fun _ _ => q _⟩
      rw [inv.tf, inv.aj]
      exact s34 _ _ hst
    -- the two books
    have good0 : GoodRule [] := ⟨Nat.zero_le _, fun x hx => (by cases hx)⟩
    have goodv : GoodRule [("void" : Str)] := ⟨by decide, by decide⟩
    have goodA : Bk25 [rul m0, [], [], [], [], [], [("void" : Str)], rul m1] m0 m1 := ⟨⟨rfl, fun r hr => by
      simp only [List.mem_cons, List.not_mem_nil, or_false] at hr
      rcases hr with rfl | rfl | rfl | rfl | rfl | rfl | rfl | rfl
      · exact rul_good hm0
      · exact good0
      · exact good0
      · exact good0
      · exact good0
      · exact good0
      · exact goodv
      · exact rul_good hm1⟩, .inl ⟨rfl, rfl, rfl⟩, rfl, rfl, rfl, rfl, rfl⟩
    have goodB : Bk25 [[], rul m0, rul m0, [], [], [], [("void" : Str)], rul m1] m0 m1 := ⟨⟨rfl, fun r hr => by
      simp only [List.mem_cons, List.not_mem_nil, or_false] at hr
      rcases hr with rfl | rfl | rfl | rfl | rfl | rfl | rfl | rfl
      · exact good0
      · exact rul_good hm0
      · exact rul_good hm0
      · exact good0
      · exact good0
      · exact good0
      · exact goodv
      · exact rul_good hm1⟩, .inr ⟨rfl, rfl, rfl⟩, rfl, rfl, rfl, rfl, rfl⟩
    refine ⟨_, rfl, Nat.zero_le _, fun u1 h1 => ⟨Nat.zero_le _, fun u2 h2 => ⟨Nat.zero_le _, fun u3 h3 => ⟨Nat.zero_le _, fun u4 h4 => ⟨Nat.zero_le _, fun u5 h5 => ⟨by show 1 ≤ sizeLine; decide, fun u6 h6 => ⟨_, rfl, by show 8 ≤ sizeLine; decide, fun R hR => ?_⟩⟩⟩⟩⟩⟩⟩
    have n1 := new_rule (K := K) (r := []) h1
    have n2 := new_rule (K := K) (r := []) h2
    have n3' := new_rule (K := K) (r := []) h3
    have n4 := new_rule (K := K) (r := []) h4
    have n5 := new_rule (K := K) (r := []) h5
    have n6 := new_rule (K := K) (r := [("void" : Str)]) h6
    have y := same_new (o := .lst ([t5, u1, u2, u3, u4, u5, u6, t6].map V.ref)) hR
    have z6 := n6.1.trans y
    have z5 := n5.1.trans z6
    have z4 := n4.1.trans z5
    have z3 := n3'.1.trans z4
    have z2 := n2.1.trans z3
    have z1 := n1.1.trans z2
    have pz2 := pz.same z1
    have hqA : Paired (RuleAt K (upd (upd (upd (upd (upd (upd (upd H7 u1 (.tup [])) u2 (.tup [])) u3 (.tup [])) u4 (.tup [])) u5 (.tup [])) u6 (.tup [.str "void"])) R (.lst ([t5, u1, u2, u3, u4, u5, u6, t6].map V.ref)))) [t5, u1, u2, u3, u4, u5, u6, t6] [rul m0, [], [], [], [], [], [("void" : Str)], rul m1] := .cons pz2.r5 (.cons (same_tup z2 n1.2) (.cons (same_tup z3 n2.2) (.cons (same_tup z4 n3'.2) (.cons (same_tup z5 n4.2) (.cons (same_tup z6 n5.2) (.cons (same_tup y n6.2) (.cons pz2.r6 .nil)))))))
    have hRA : upd (upd (upd (upd (upd (upd (upd H7 u1 (.tup [])) u2 (.tup [])) u3 (.tup [])) u4 (.tup [])) u5 (.tup [])) u6 (.tup [.str "void"])) R (.lst ([t5, u1, u2, u3, u4, u5, u6, t6].map V.ref)) R = some (.lst ([t5, u1, u2, u3, u4, u5, u6, t6].map V.ref)) := upd_same
    show Ends.nx _ [some (.ref a), some (.ref p), some (.ref a0), some (.int (1 + kd)), some (.ref M), some (.ref t5), some (.ref t6), some (.ref R), none, none, none, none, none, none, none, none] (upd (upd (upd (upd (upd (upd (upd H7 u1 (.tup [])) u2 (.tup [])) u3 (.tup [])) u4 (.tup [])) u5 (.tup [])) u6 (.tup [.str "void"])) R (.lst ([t5, u1, u2, u3, u4, u5, u6, t6].map V.ref)))
    rw [hdd]
    generalize upd (upd (upd (upd (upd (upd (upd H7 u1 (.tup [])) u2 (.tup [])) u3 (.tup [])) u4 (.tup [])) u5 (.tup [])) u6 (.tup [.str "void"])) R (.lst ([t5, u1, u2, u3, u4, u5, u6, t6].map V.ref)) = H8 at pz2 hqA hRA
    refine ⟨_, rfl, a0, 4, 2, rfl, pz2.sp _ ha0, by decide, by decide, by decide, fun H9 k9 b9 s9 k90 k91 => ⟨rfl, _, rfl, ?_⟩⟩
    have pz3 := pz2.draw nM ha0 b9 s9 (show 4 ≤ 5 by decide)
    by_cases hk : k9 = 0
    · rw [decide_eq_true (congrArg V.int hk)]
      refine ⟨Nat.zero_le _, fun v1 g1 => ⟨_, rfl, _, rfl, Nat.zero_le _, fun v2 g2 => ⟨Nat.zero_le _, fun v3 g3 => ⟨Nat.zero_le _, fun v4 g4 => ⟨by show 1 ≤ sizeLine; decide, fun v5 g5 => ⟨_, rfl, by show 8 ≤ sizeLine; decide, fun R2 hR2 => ?_⟩⟩⟩⟩⟩⟩
      have o1 := new_rule (K := K) (r := []) g1
      have o2 := new_rule (K := K) (r := []) g2
      have o3 := new_rule (K := K) (r := []) g3
      have o4 := new_rule (K := K) (r := []) g4
      have o5 := new_rule (K := K) (r := [("void" : Str)]) g5
      have y2 := same_new (o := .lst ([v1, t5, t5, v2, v3, v4, v5, t6].map V.ref)) hR2
      have x5 := o5.1.trans y2
      have x4 := o4.1.trans x5
      have x3 := o3.1.trans x4
      have x2 := o2.1.trans x3
      have x1 := o1.1.trans x2
      have pz4 := pz3.same x1
      exact rest _ R2 [v1, t5, t5, v2, v3, v4, v5, t6] _ pz4 upd_same (.cons (same_tup x2 o1.2) (.cons pz4.r5 (.cons pz4.r5 (.cons (same_tup x3 o2.2) (.cons (same_tup x4 o3.2) (.cons (same_tup x5 o4.2) (.cons (same_tup y2 o5.2) (.cons pz4.r6 .nil)))))))) goodB
    · rw [decide_eq_false (fun z => hk (V.int.inj z))]
      exact rest H9 R [t5, u1, u2, u3, u4, u5, u6, t6] _ pz3 (rawS b9 (pz2.sp _ ha0) hRA (refs_no _)) (paired_map (fun _ _ _ hh => But.tupS b9 (pz2.sp _ ha0) hh) hqA) goodA
theorem c_law (T : Txt K mg) : C8.Cal P w K mg base 10 "law" (sp_law K) [] := by
  obtain ⟨fd, F⟩ := T.f_law
  exact ⟨_, fd, _, _, ok_law T F, T.g_law, F.kp, F.bindsN (fun _ _ _ _ _ _ us hl => match us, hl with | [_], _ => rfl), .nil⟩
end
end K25

namespace K25
open PySem PySem.Spec PyProof.Rows L2 My
abbrev spLaw (K : PySem.W.Frag) : Sp := sp_law K
theorem law_end {P : Program} {w : World} {K : PySem.W.Frag} {mg : Str → Option Value} {fa : Addr} (T : Txt K mg) (hmg : mg ("law" : Str) = some (.ref fa)) :
    ∃ fd, (∀ (s : Shared) (u : Value), BindsTo s fd ⟨[u], []⟩ [("script", u)]) ∧ ∀ base : Heap, K.In base → base.Ns mainGlobals mg → FnOk P w K mg base L2.CX0 10 fa fd ["script"] (spLaw K) := by
  obtain ⟨fd, F⟩ := T.f_law
  have e : fa = He.fAd K d_law.at_ := by
    have h := T.g_law
    rw [hmg] at h
    exact Value.ref.inj (Option.some.inj h)
  subst e
  exact ⟨fd, fun s u => F.bindsA (ps := ["script"]) (fun _ _ _ _ _ _ us hl => match us, hl with | [_], _ => rfl) s [u] rfl, fun base _ _ => ok_law T F⟩
end K25

open PySem PySem.W PySem.Calls PyProof.Rows in
set_option maxRecDepth 100000 in
set_option maxHeartbeats 0 in
theorem PySem.Challenge.cw_lockerwall_k25_letters_and_codes_holds : PySem.Challenge.rw_lockerwall_k25_letters_and_codes.Holds := by
  w_on; o_law
  refine HandSHeadRun.head_any (r := OpenLaw.row PySem.Challenge.rw_lockerwall_k25_letters_and_codes) (q := view (OpenLaw.row PySem.Challenge.rw_lockerwall_k25_letters_and_codes).prog [48]) (H := K25.hk) (ob := K25.ob) (M := 6000) (loose := K25.loose) (d := HandSHeadRun.topDef (OpenLaw.row PySem.Challenge.rw_lockerwall_k25_letters_and_codes).prog 48) (kwd := []) K25.ob_eq
    (by kernel_rfl) (fun s => by kernel_rfl) K25.run (by kernel_rfl) (by kernel_rfl) (by kernel_rfl) (by rfl) (by first | assumption | decide +kernel) (by decide +kernel) ⟨rfl, rfl, rfl, rfl, rfl, by decide +kernel⟩ ?hw ?hc
  case hw => w_witness2
  case hc =>
    refine L2.walk_ofE (l := PySem.Challenge.rw_lockerwall_k25_letters_and_codes) (n := 63) (k := 10) (x := "script") (CX := L2.CX0) rfl (by decide) (by kernel_rfl) ⟨rfl, by decide, by decide⟩ ?F (fun _ _ _ _ z => z)
    intro w mg fa h Y G hmg0
    obtain ⟨K, KX, c, e⟩ := Y
    have hmg : mg ("law" : PySem.Str) = some (.ref fa) := by
      have e : (HandSHeadRun.topDef (OpenLaw.row PySem.Challenge.rw_lockerwall_k25_letters_and_codes).prog 48).name = ("law" : PySem.Str) := by kernel_rfl
      rw [← e]
      exact hmg0
    obtain ⟨fd, hb, hF⟩ := K25.law_end (P := (PySem.Challenge.rw_lockerwall_k25_letters_and_codes).prog) (w := w) ⟨h, KX, G, c, e⟩ hmg
    exact ⟨K, fd, K25.spLaw K, KX, hb, fun H a ns hl hO hS => ⟨a, ns, rfl, hS, hl, fun _ => rfl⟩, hF⟩

