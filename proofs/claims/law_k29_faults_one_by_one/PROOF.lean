import PyProof.Rows.All
import Wide.All
import OpenK.AllK
import Wide.FinOn
import HandS.ForMost
import HandS.Flow
import HandS.IsInst
import HandS.Style
import HandS.More
import HandS.Strs
import HandS.Zip
import HandS.Codes
import HandS.Defaults
import HandS.MakeKw
import HandS.TupAny
import HandS.TupMul
import HandS.Wide
import HandS.Sort
import HandS.SortInts
import HandS.NoneIn
import HandS.Conv
import HandS.Walk
import HandS.Head0
import HandS.Head1
import HandS.Head2
import HandS.HeadEnd
import HandS.HeadHook1
import HandS.HeadHook2
import HandS.Star
import HandS.SortOrd
import HandS.TryOnly
import PyProof.EqAt
import PySem.Challenge.RW_lockerwall_k29_faults_one_by_one
set_option Elab.async false
set_option linter.all false
set_option maxRecDepth 100000
namespace My
open PySem PySem.Spec PyProof.Rows L2
/-! ### tables of the written part by address -/
def tupAt (K : PySem.W.Frag) (a : Addr) (vs : List V) : Bool := match K.lookup a with
  | some ⟨.type c, none, .seq its _, _⟩ => decide (c = "tuple") && (decide (its.size ≤ sizeLine) && He.relAll vs its.toList)
  | _ => false
theorem tupAt_ex {K : PySem.W.Frag} {a : Addr} {vs : List V} (h : tupAt K a vs = true) : ∃ (o : Obj) (its : Array Value) (n : Nat), K.lookup a = some o ∧ o.cls = .type "tuple" ∧ o.dict = none ∧ o.data = .seq its n ∧ its.size ≤ sizeLine ∧ Vals vs its.toList := by
  unfold tupAt at h
  cases q : K.lookup a with
  | none =>
    rw [q] at h
    cases h
  | some o =>
    obtain ⟨oc, od, dt, osl⟩ := o
    rw [q] at h
    cases oc with
    | type c =>
      cases od with
      | none =>
        cases dt with
        | seq its n =>
          obtain ⟨h1, h2⟩ := He.ba (show (decide (c = "tuple") && (decide (its.size ≤ sizeLine) && He.relAll vs its.toList)) = true from h)
          obtain ⟨h3, h4⟩ := He.ba h2
          exact ⟨_, its, n, rfl, congrArg Value.type (of_decide_eq_true h1), rfl, rfl, of_decide_eq_true h3, He.relAll_ok h4⟩
        | _ => cases h
      | some d => cases dt <;> cases h
    | _ => cases od <;> cases dt <;> cases h
theorem tupAt_ok {K : PySem.W.Frag} {a : Addr} {vs : List V} (h : tupAt K a vs = true) (H : Hp) : SqT K H a vs := by
  obtain ⟨o, its, n, h1, h2, h3, h4, h5, h6⟩ := tupAt_ex h
  exact .inr ⟨o, its, n, h1, h2, h4, h5, h6⟩
theorem tupAt_ty {K : PySem.W.Frag} {a : Addr} {vs : List V} (h : tupAt K a vs = true) (H : Hp) : tyV K "tuple" (.ref a) H := by
  obtain ⟨o, its, n, h1, h2, h3, h4, h5, h6⟩ := tupAt_ex h
  exact .inr (.inl ⟨rfl, o, h1, h2, h3⟩)
theorem all_ix {l : List Bool} (h : l.all id = true) (i : Nat) {b : Bool} (e : l[i]? = some b) : b = true := by
  have := List.all_eq_true.mp h b (List.mem_of_getElem? e)
  exact this
/-! ### the Hook: facts, defs, one more Bool -/
abbrev AlE : Type := He.AlD × Bool
def obsDG2 (n : Nat) (fa : List He.Fa) (fn : List He.DefD) (ex : PySem.W.Frag → Bool) (g : Addr → Option Obj) : AlE := (fun K => (He.obsD fa fn K, ex K)) (He.frG g (He.asD g n))
def hookD2 (n : Nat) (fa : List He.Fa) (fn : List He.DefD) (ex : PySem.W.Frag → Bool) : PySem.W.Hook where
  α := AlE
  obs := fun s => obsDG2 n fa fn ex s.heap.get?
  val := fun _ => (He.valD fn, true)
  says := fun _ h => ∃ K : PySem.W.Frag, K.In h ∧ He.SaysD fa fn K ∧ ex K = true
  of := fun _ _ e => ⟨_, He.frG_in, congrArg (fun z : AlE => z.1) e, congrArg (fun z : AlE => z.2) e⟩
  keeps := fun _ _ _ ⟨K, hK, c⟩ k => ⟨K, PySem.W.Frag.In.keeps hK k, c⟩
theorem obsDG2_eq {n : Nat} {fa : List He.Fa} {fn : List He.DefD} {ex : PySem.W.Frag → Bool} {g : Addr → Option Obj} {s : Shared} (h : ∀ a, g a = s.heap.get? a) : obsDG2 n fa fn ex g = (hookD2 n fa fn ex).obs s := by
  have e : g = s.heap.get? := funext h
  rw [e] <;> rfl
end My
namespace My
open PySem PySem.Spec PyProof.Rows L2
/-! ### small rules -/
section
variable {X : Cx} {k j : Nat} {C : Addr} {x : Str} {sp : Sp} {dvs : List V} {p pos : Pos}
theorem pe_c0 (c : C8.Cal X.prog X.w X.K X.mg X.base k x sp dvs) (hr : Room j X.A) (hk : k ≤ j) (hg : Gl X x) (hdb : (x == ("__debug__" : Str)) = false := by decide) :
    PE X (.Call (.Name x p) [] [] pos) (tCall sp dvs C8.E0 tNil) := by
  obtain ⟨f, fd, ps, ds, F, hm, kp, b, d⟩ := c.ex
  exact pe_call0 F (hr.mono hk) hg hm kp b d C8.pass0 hdb
theorem pe_mk0 (c : C8.Mak X.prog X.w X.K X.mg X.base k x C sp dvs) (hr : Room j X.A) (hk : k + 1 ≤ j) (hg : Gl X x) (hdb : (x == ("__debug__" : Str)) = false := by decide) :
    PE X (.Call (.Name x p) [] [] pos) (tMake C sp dvs C8.E0 tNil) := by
  obtain ⟨f, fd, ps, ds, M, F, hm, b, d⟩ := c.ex
  exact pe_make0 M F (hr.mono hk) hg hm b d C8.pass0 hdb
/-- ** of great ints -/
def CPowW (i j : Int) : Prop := 0 ≤ j ∧ j ≤ 100 ∧ i.natAbs < 2 ^ 10000
theorem op_powW : OpR X (binaryOp .Pow) (rI CPowW fun i j => .int (i ^ j.toNat)) := opI fun i j _ _ _ _ _ hc q => by
  obtain ⟨h1, h2, h3⟩ := hc
  have hb := intBits_le h3
  refine PyProof.Rows.pow_int h1 ?_ q
  have h4 : (Builtin.Int.intBits i : Int) ≤ 10000 := by omega
  have h5 : (Builtin.Int.intBits i : Int) * j ≤ 10000 * 100 := Int.mul_le_mul h4 h2 h1 (by decide)
  exact Int.le_trans h5 (by decide)
end
theorem inV_str (x : Str) : ∀ ws : List Str, inV (.str x) (ws.map V.str) = decide (x ∈ ws)
  | [] => rfl
  | y :: ws => by
    have ih := inV_str x ws
    show (eqV (.str y) (.str x) || inV (.str x) (ws.map V.str)) = _
    rw [ih]
    show ((y == x) || decide (x ∈ ws)) = _
    by_cases e : y = x
    · subst e
      simp
    · have e2 : ¬ x = y := fun z => e z.symm
      simp [e, e2]
theorem all_flat_str (ws : List Str) : (ws.map V.str).all flatV = true := by
  rw [List.all_map]
  exact List.all_eq_true.mpr fun _ _ => rfl
end My

namespace My
open PySem PySem.Spec PyProof.Rows L2
theorem map_get {α β : Type} {f : α → β} {l : List α} {i : Nat} {y : β} (h : (l.map f)[i]? = some y) : ∃ z, l[i]? = some z ∧ y = f z := by
  rw [List.getElem?_map] at h
  cases e : l[i]? with
  | none =>
    rw [e] at h
    cases h
  | some z =>
    rw [e] at h
    exact ⟨z, rfl, (Option.some.inj h).symm⟩
theorem tyx_tup {K : PySem.W.Frag} {H : Hp} {a : Addr} {xs : List V} (h : SqT K H a xs) : TyX K H (.ref a) (.type "tuple") := by
  rcases h with (h | ⟨o, h⟩) | ⟨o, its, n, hk, hc, _⟩
  · exact .base (.tup h)
  · exact .fTuple h
  · exact .kTuple hk hc
theorem tyx_lst {K : PySem.W.Frag} {H : Hp} {a : Addr} {xs : List V} (h : SqL K H a xs) : TyX K H (.ref a) (.type "list") := by
  rcases h with (h | ⟨o, h⟩) | ⟨o, its, n, hk, hc, _⟩
  · exact .base (.lst h)
  · exact .base (.frz h)
  · exact .kList hk hc
theorem same_tup {K : PySem.W.Frag} {H H' : Hp} {a : Addr} {xs : List V} (e : Same H H') (h : SqT K H a xs) : SqT K H' a xs := by
  rcases h with (h | ⟨o, h⟩) | h
  · exact .inl (.inl (e _ _ h))
  · exact .inl (.inr ⟨o, e _ _ h⟩)
  · exact .inr h
theorem same_new {H : Hp} {a : Addr} {o : HO} (h : H a = Option.none) : Same H (upd H a o) := fun b u e => by
  rw [upd_ne (ne_of_none e h)]
  exact e
theorem same_upd {H H' : Hp} {a : Addr} {o : HO} (s : Same H H') (h : H a = Option.none) : Same H (upd H' a o) := fun b u e => by
  rw [upd_ne (ne_of_none e h)]
  exact s b u e
/-- all that stood stands as it was, but at these addresses -/
def But (as : List Addr) (H H' : Hp) : Prop := ∀ b o, b ∉ as → H b = some o → H' b = some o
theorem But.refl (as : List Addr) (H : Hp) : But as H H := fun _ _ _ h => h
theorem But.trans {as : List Addr} {H H1 H2 : Hp} (a : But as H H1) (b : But as H1 H2) : But as H H2 := fun c o n h => b c o n (a c o n h)
theorem But.of {as : List Addr} {H H' : Hp} (s : Same H H') : But as H H' := fun c o _ h => s c o h
theorem But.mono {as bs : List Addr} {H H' : Hp} (s : But as H H') (h : ∀ a ∈ as, a ∈ bs) : But bs H H' := fun c o n e => s c o (fun z => n (h c z)) e
theorem But.same {H H' : Hp} (s : But [] H H') : Same H H' := fun c o h => s c o (by simp) h
/-- a change at a place that was not there, or that is let -/
theorem But.put {as : List Addr} {H H' : Hp} {a : Addr} {o : HO} (s : But as H H') (h : H a = Option.none ∨ a ∈ as) : But as H (upd H' a o) := fun b u n e => by
  have nb : b ≠ a := by
    intro z
    subst z
    rcases h with h | h
    · rw [h] at e
      cases e
    · exact n h
  rw [upd_ne nb]
  exact s b u n e
theorem But.tup {K : PySem.W.Frag} {as : List Addr} {H H' : Hp} {a : Addr} {xs : List V} (s : But as H H') (n : a ∉ as) (h : SqT K H a xs) : SqT K H' a xs := by
  rcases h with (h | ⟨o, h⟩) | h
  · exact .inl (.inl (s _ _ n h))
  · exact .inl (.inr ⟨o, s _ _ n h⟩)
  · exact .inr h
theorem But.lst {K : PySem.W.Frag} {as : List Addr} {H H' : Hp} {a : Addr} {xs : List V} (s : But as H H') (n : a ∉ as) (h : SqL K H a xs) : SqL K H' a xs := by
  rcases h with (h | ⟨o, h⟩) | h
  · exact .inl (.inl (s _ _ n h))
  · exact .inl (.inr ⟨o, s _ _ n h⟩)
  · exact .inr h
theorem But.none {as : List Addr} {H H' : Hp} {a : Addr} (s : But as H H') (n : a ∉ as) (h : H' a = Option.none) : H a = Option.none := by
  cases q : H a with
  | none => rfl
  | some o =>
    rw [s a o n q] at h
    cases h
end My
namespace My
open PySem PySem.Spec PyProof.Rows L2
/-! ### the rules by a named K (a comprehension's block has its own context over the same K) -/
section
variable {X : Cx} {K : PySem.W.Frag} {a b e o : Expr} {es : List Expr} {ta tb te to : TE} {t : TA} {pos apos cpos tpos p2 : Pos} {f name : Str} {T id : String} {r : V → List V → Hp → VK → Prop} {tg l : Expr} {tl : TE}
theorem ix_listK (h : X.K = K) : IxR X (rIxL K) := by subst h; exact ix_list
theorem ix_tupK (h : X.K = K) : IxR X (rIxT K) := by subst h; exact ix_tup
def rLenQ (K : PySem.W.Frag) : List V → Hp → VK → Prop := fun xs H Q => ∃ p ys, xs = [.ref p] ∧ (SqL K H p ys ∨ SqT K H p ys) ∧ Q (.int ys.length) H
theorem len_seqK (h : X.K = K) : CallR X (.builtin "len") (rLenQ K) := by subst h; exact call_len_seq
def rListOf (K : PySem.W.Frag) : List V → Hp → VK → Prop := fun xs H Q => ∃ p ys, xs = [.ref p] ∧ (SqL K H p ys ∨ SqT K H p ys) ∧ ∀ l, H l = none → Q (.ref l) (upd H l (.lst ys))
theorem list_ofK (h : X.K = K) : CallR X (.type "list") (rListOf K) := by subst h; exact call_list_of
def rTupleOf (K : PySem.W.Frag) : List V → Hp → VK → Prop := fun xs H Q => ∃ p ys, xs = [.ref p] ∧ ((SqL K H p ys ∧ ∀ l, H l = none → Q (.ref l) (upd H l (.tup ys))) ∨ (SqT K H p ys ∧ Q (.ref p) H))
theorem tuple_ofK (h : X.K = K) : CallR X (.type "tuple") (rTupleOf K) := by subst h; exact call_tuple_of
theorem isiK (h : X.K = K) : CallR X (.builtin "isinstance") (rIsi K) := by subst h; exact call_isi
theorem isiTK (h : X.K = K) : CallR X (.builtin "isinstance") (rIsiT K) := by subst h; exact call_isiT
theorem allK (h : X.K = K) (hc : X.calm = true) : CallR X (.builtin "all") (rAll K) := by subst h; exact cr_all hc
theorem anyK (h : X.K = K) (hc : X.calm = true) : CallR X (.builtin "any") (rAny K) := by subst h; exact cr_any hc
theorem sortedIK (h : X.K = K) : CallR X (.builtin "sorted") (rSortedI K) := by subst h; exact cr_sortedI
theorem in_seqK (h : X.K = K) : OpR X (compareOp .In) (rIn K false) := by subst h; exact op_in_seq
theorem notIn_seqK (h : X.K = K) : OpR X (compareOp .NotIn) (rIn K true) := by subst h; exact op_notIn_seq
theorem eqDK (h : X.K = K) (hu : X.A.units + 64 < cLine) : OpR X (compareOp .Eq) (rEqD K) := by subst h; exact op_eqD hu
theorem neDK (h : X.K = K) (hu : X.A.units + 64 < cLine) : OpR X (compareOp .NotEq) (rNeD K) := by subst h; exact op_neD hu
theorem catAK (h : X.K = K) : OpR X (binaryOp .Add) (rCatA K) := by subst h; exact op_catA
theorem repTK (h : X.K = K) : OpR X (binaryOp .Mult) (rRepT K) := by subst h; exact op_repT
theorem sl_listK (h : X.K = K) : SlR X (rSlL K) := by subst h; exact sl_list
theorem sl_tupAK (h : X.K = K) : SlR X (rSlA K) := by subst h; exact sl_tupA
theorem pe_fldK (h : X.K = K) (he : PE X e ta) (hb : attributeBase e f X.env (eval e X.env) = eval e X.env) : PE X (.Attribute e f pos) (tFld K ta f) := by subst h; exact pe_fld he hb
theorem pt_truthK (h : X.K = K) (ha : PE X a ta) (he : ∀ whole, isTrue a X.env whole = (do let v ← whole; standAt a.pos; holding [v] (truthy v))) : PT X a (fun σ H Q => ta σ H fun x H' => ∃ k, TruV K x H' k ∧ Q k H') := by subst h; exact pt_truth ha he
theorem pi_listK (h : X.K = K) (hl : PE X l tl) : PI X tg l (iList K tl) := by subst h; exact pi_list hl
theorem pi_tupK (h : X.K = K) (hl : PE X l tl) : PI X tg l (iTup K tl) := by subst h; exact pi_tup hl
theorem pe_revLK {k : Nat} {p1 p3 : Pos} (h : X.K = K) (he : PE X e te) : PE X (.Subscript e (.Slice none none (some (.UnaryOp .USub (.Constant (.int 1) k p1) p2)) p3) pos) (tRevL K te) := by subst h; exact pe_revL he
theorem pe_bm0K (h : X.K = K) (pa : PlainAttrs T) (slot : Slot T name id) (hty : typeOf (.builtin id) = pure (.type "method_descriptor")) (hm : MtR X id r) (ho : PE X o to)
    (hbase : attributeBase o name X.env (eval o X.env) = eval o X.env := by rfl) (hline : (apos.endLine == cpos.line) = true := by rfl) : PE X (.Call (.Attribute o name apos) [] [] cpos) (tBM0 K T r to) := by subst h; exact pe_bm0 pa slot hty hm ho hbase hline
theorem pe_bmK (h : X.K = K) (pa : PlainAttrs T) (slot : Slot T name id) (hty : typeOf (.builtin id) = pure (.type "method_descriptor")) (hm : MtR X id r) (ho : PE X o to) (ha : PA X (e :: es) t)
    (hbase : attributeBase o name X.env (eval o X.env) = eval o X.env := by rfl)
    (hfew : ((backTo cpos (starEach (e :: es) X.env)).all (fun x => !x.1) && (backToKw cpos (keywordEach [] X.env)).all (fun x => x.1.isSome)
      && decide ((e :: es).length + ([] : List Keyword).length + (if ([] : List Keyword).isEmpty then 0 else 1) < 30)) = true := by rfl)
    (hline : (apos.endLine == cpos.line) = true := by rfl) (hs : starEach (e :: es) X.env = (false, eval e X.env) :: starEach es X.env := by rfl) (hplain : (backTo cpos (starEach es X.env)).any (·.1) = false := by rfl) :
    PE X (.Call (.Attribute o name apos) (e :: es) [] cpos) (tBM K T r to t) := by subst h; exact pe_bm pa slot hty hm ho ha hbase hfew hline hs hplain
def rTupIx (K : PySem.W.Frag) : V → List V → Hp → VK → Prop := fun x xs H Q => ∃ p, ∃ ys : List Str, ∃ z j, x = .ref p ∧ xs = [.str z] ∧ SqT K H p (ys.map V.str) ∧ ys[j]? = some z ∧ (∀ m, m < j → ys[m]? ≠ some z) ∧ Q (.int (j : Nat)) H
theorem tup_indexK (h : X.K = K) : MtR X "tuple.index" (rTupIx K) := by subst h; exact mt_tup_index
end
end My
namespace My
open PySem PySem.Spec PyProof.Rows L2
theorem pg_tupK {X : Cx} {K : PySem.W.Frag} {es : List Expr} {k : Nat} {t : TGs} {n : Nat} {pos : Pos} (h0 : X.K = K) (hc : X.calm = true) (h : PGs X es t)
    (hn : (assignEach es X.env).length = n := by rfl) (hst : (assignEach es X.env).findIdx? (·.1) = none := by rfl) : PG X (.Tuple es k pos) (gTup K n t) := by subst h0; exact pg_tup hc h hn hst
/-! ### two fors in a comprehension -/
section
variable {J J1 : It} {n n1 : Nat} {G G1 : Hp → Prop} {Y Y1 : Nat → Hp → V → Hp → Prop} {g g1 : TG} {tt tt1 : TT} {te : TE} {wi1 : TI} {vs vs1 : List Nat} {σ σ2 : L2.St} {H1 H4 : Hp} {D : Addr} {Qd Nx : Hp → Prop}
theorem lc2_out (w : Walk J n G Y) (Pv : Nat → Hp → Prop) (h0 : Pv 0 (upd H1 D (.lst []))) (hG : ∀ i H, i ≤ n → Pv i H → G H)
    (hs : ∀ i x H H', i < n → Pv i H → Y i H x H' → g x (wipe σ vs) H' fun σ2 H2 => wipe σ2 vs = wipe σ vs ∧ tt σ2 H2 fun b H3 =>
      if b = true then wi1 σ2 H3 fun J1 H4 => ∃ W1 : Nat → Nat → Hp → Prop, (∃ m, W1 0 m H4) ∧ ∀ j k H, W1 j k H →
        (J1.stop j H ∧ Pv (i + 1) H) ∨ (J1.go j H ∧ ∃ Nx1 : Hp → Prop, (∀ H', Nx1 H' → ∃ k', k' < k ∧ W1 (j + 1) k' H') ∧ ∀ x H', J1.yld j H x H' → g1 x (wipe σ2 vs1) H' fun σ3 H5 => wipe σ3 vs1 = wipe σ2 vs1 ∧ tt1 σ3 H5 fun b H6 =>
          if b = true then te σ3 H6 fun y H7 => ∃ acc, H7 D = some (.lst acc) ∧ acc.length < sizeLine ∧ Nx1 (upd H7 D (.lst (acc ++ [y]))) else Nx1 H6)
      else Pv (i + 1) H3) (hd : ∀ H, Pv n H → Qd H) :
    ∃ W : Nat → Nat → Hp → Prop, (∃ m, W 0 m (upd H1 D (.lst []))) ∧ ∀ i m H, W i m H →
      (J.stop i H ∧ Qd H) ∨ (J.go i H ∧ ∃ Nx : Hp → Prop, (∀ H', Nx H' → ∃ m', m' < m ∧ W (i + 1) m' H') ∧ ∀ x H', J.yld i H x H' → g x (wipe σ vs) H' fun σ2 H2 => wipe σ2 vs = wipe σ vs ∧ tt σ2 H2 fun b H3 =>
        if b = true then wi1 σ2 H3 fun J1 H4 => ∃ W1 : Nat → Nat → Hp → Prop, (∃ m, W1 0 m H4) ∧ ∀ j k H, W1 j k H →
          (J1.stop j H ∧ Nx H) ∨ (J1.go j H ∧ ∃ Nx1 : Hp → Prop, (∀ H', Nx1 H' → ∃ k', k' < k ∧ W1 (j + 1) k' H') ∧ ∀ x H', J1.yld j H x H' → g1 x (wipe σ2 vs1) H' fun σ3 H5 => wipe σ3 vs1 = wipe σ2 vs1 ∧ tt1 σ3 H5 fun b H6 =>
            if b = true then te σ3 H6 fun y H7 => ∃ acc, H7 D = some (.lst acc) ∧ acc.length < sizeLine ∧ Nx1 (upd H7 D (.lst (acc ++ [y]))) else Nx1 H6)
        else Nx H3) := by
  refine ⟨fun i m H => m = n - i ∧ i ≤ n ∧ Pv i H, ⟨n, by simp, Nat.zero_le _, h0⟩, ?_⟩
  rintro i m H ⟨rfl, hi, p⟩
  have q := hG i H hi p
  by_cases hlt : i < n
  · exact .inr ⟨w.goes i H hlt q, Pv (i + 1), fun H' p' => ⟨n - (i + 1), by omega, rfl, hlt, p'⟩, fun x H' y => hs i x H H' hlt p (w.yields i H x H' hlt q y)⟩
  · have e : i = n := by omega
    subst e
    exact .inl ⟨w.stops H q, hd H p⟩
theorem lc2_in (w : Walk J1 n1 G1 Y1) (Pv : Nat → Hp → Prop) (h0 : Pv 0 H4) (hG : ∀ i H, i ≤ n1 → Pv i H → G1 H)
    (hs : ∀ i x H H', i < n1 → Pv i H → Y1 i H x H' → g1 x (wipe σ2 vs1) H' fun σ3 H5 => wipe σ3 vs1 = wipe σ2 vs1 ∧ tt1 σ3 H5 fun b H6 =>
      if b = true then te σ3 H6 fun y H7 => ∃ acc, H7 D = some (.lst acc) ∧ acc.length < sizeLine ∧ Pv (i + 1) (upd H7 D (.lst (acc ++ [y]))) else Pv (i + 1) H6) (hd : ∀ H, Pv n1 H → Nx H) :
    ∃ W1 : Nat → Nat → Hp → Prop, (∃ m, W1 0 m H4) ∧ ∀ j k H, W1 j k H →
      (J1.stop j H ∧ Nx H) ∨ (J1.go j H ∧ ∃ Nx1 : Hp → Prop, (∀ H', Nx1 H' → ∃ k', k' < k ∧ W1 (j + 1) k' H') ∧ ∀ x H', J1.yld j H x H' → g1 x (wipe σ2 vs1) H' fun σ3 H5 => wipe σ3 vs1 = wipe σ2 vs1 ∧ tt1 σ3 H5 fun b H6 =>
        if b = true then te σ3 H6 fun y H7 => ∃ acc, H7 D = some (.lst acc) ∧ acc.length < sizeLine ∧ Nx1 (upd H7 D (.lst (acc ++ [y]))) else Nx1 H6) := by
  refine ⟨fun i m H => m = n1 - i ∧ i ≤ n1 ∧ Pv i H, ⟨n1, by simp, Nat.zero_le _, h0⟩, ?_⟩
  rintro i m H ⟨rfl, hi, p⟩
  have q := hG i H hi p
  by_cases hlt : i < n1
  · exact .inr ⟨w.goes i H hlt q, Pv (i + 1), fun H' p' => ⟨n1 - (i + 1), by omega, rfl, hlt, p'⟩, fun x H' y => hs i x H H' hlt p (w.yields i H x H' hlt q y)⟩
  · have e : i = n1 := by omega
    subst e
    exact .inl ⟨w.stops H q, hd H p⟩
end
end My
namespace My
open PySem PySem.Spec PyProof.Rows L2
/-! ### f(b=.., a=..): both arguments by name, turned about -/
def kwG {α : Type} (us ws : List α) : List α := match us, ws with
  | [], [x, y] => [y, x]
  | _, _ => []
structure CalK2 (P : Program) (w : World) (K : PySem.W.Frag) (mg : Str → Option Value) (base : Heap) (k : Nat) (x : Str) (sp : Sp) (p1 p2 : Str) : Prop where
  ex : ∃ (f : Addr) (fd : FuncData), FnOk P w K mg base C8.CX0 k f fd [p1, p2] sp ∧ mg x = some (.ref f) ∧ PySem.W.keepIn K (.ref f) = true ∧ KBinds K fd [p1, p2] [p2, p1] kwG kwG
theorem kw2_of {K : PySem.W.Frag} {x qual : Str} {params : Arguments} {body : List Stmt} {scope : Scope} {kws : List (Str × V)} {f : Addr} {fd : FuncData} {p1 p2 : Str} (F : FunD K x qual params body scope [] kws f fd)
    (h : ∀ (kV doc pm : Value) (an : Option Addr) (cdv ct : Value) (u v : Value), bindArgs (PySem.W.fnOf x qual params body scope .none kV doc pm an cdv ct) ⟨[], [(p2, u), (p1, v)]⟩ = pure [(p1, v), (p2, u)]) : KBinds K fd [p1, p2] [p2, p1] kwG kwG := by
  obtain ⟨oc, od, dV, kV, doc, pm, an, cdv, ct, osl, rfl, lk, hcd, hD, hK⟩ := F.ex
  rcases hD with ⟨_, rfl⟩ | ⟨e, _⟩
  · refine ⟨fun s us ws X hl => ?_, fun {vs us zs ws} r1 r2 => ?_⟩
    · match us, ws, hl with
      | [], [u, v], _ => exact .of_eq (h kV doc pm an cdv ct u v)
    · cases r1 with
      | nil =>
        cases r2 with
        | nil => exact .nil
        | cons a r2 =>
          cases r2 with
          | nil => exact .nil
          | cons b r2 =>
            cases r2 with
            | nil => exact .cons b (.cons a .nil)
            | cons c r2 => exact .nil
      | cons a r1 => exact .nil
  · exact absurd rfl e
theorem pe_kw2 {X : Cx} {k j : Nat} {x p1 p2 : Str} {sp : Sp} {p pos : Pos} {kws : List Keyword} {tk : TA} (c : CalK2 X.prog X.w X.K X.mg X.base k x sp p1 p2) (hr : Room j X.A) (hk : k ≤ j) (hg : Gl X x) (hkw : PK X kws tk)
    (hall : (backToKw pos (keywordEach kws X.env)).all (·.1.isSome) = true := by rfl) (hks : (backToKw pos (keywordEach kws X.env)).filterMap (·.1) = [p2, p1] := by rfl) (hdb : (x == ("__debug__" : Str)) = false := by decide)
    (hpl : ((backTo pos (starEach [] X.env)).any (·.1) || (backToKw pos (keywordEach kws X.env)).any (·.1.isNone)) = false := by rfl) : PE X (.Call (.Name x p) [] kws pos) (tCallK sp kwG C8.E0 tNil tk) := by
  obtain ⟨f, fd, F, hm, kp, hb⟩ := c.ex
  refine ⟨fun pins s σ H Q I h => ?_⟩
  refine wpAny_Call_Name_kw (ld_glob I hg hm ?_ hdb)
  refine PySem.W.callWith_KW0 (h₀ := X.base) I.ok.mod.kin kp hall (thn (hkw.run pos pins s σ H _ I h) fun ws s2 ⟨zs, H2, I2, rz, q2⟩ => ⟨I2.kIn, ?_⟩) hpl
  rw [hks]
  exact run_fnk (us := []) F (hr.mono hk) hb C8.pass0 I2 .nil rz q2
end My
namespace My
open PySem PySem.Spec PyProof.Rows L2 StX
/-! ### C(e, *ys); C(e, .., k = v, ..) -/
section
variable {X : Cx} {K : PySem.W.Frag} {k j n : Nat} {C : Addr} {x : Str} {sp : Sp} {dvs : List V} {p pos sp_ : Pos} {e : Expr} {es : List Expr} {te : TE} {t tk : TA} {kws : List Keyword} {ks : List Str} {gV : List V → List V → List V}
theorem pa_starK (h : X.K = K) (he : PE X e te) (hr : PA X es t) (hs : starEach (.Starred e sp_ :: es) X.env = (true, eval e X.env) :: starEach es X.env := by rfl) : PA X (.Starred e sp_ :: es) (tStar K te t) := by subst h; exact pa_star he hr hs
theorem pe_mkS2 (c : C8.Mak X.prog X.w X.K X.mg X.base k x C sp dvs) (hr : Room j X.A) (hk : k + 1 ≤ j) (hg : Gl X x) (ha : PA X (e :: es) t) (hdb : (x == ("__debug__" : Str)) = false := by decide)
    (he : starEach (e :: es) X.env = (false, eval e X.env) :: starEach es X.env := by rfl) (hst : (backTo pos (starEach es X.env)).any (·.1) = true := by rfl) : PE X (.Call (.Name x p) (e :: es) [] pos) (tMake C sp dvs C8.E0 t) := by
  obtain ⟨f, fd, ps, ds, M, F, hm, b, d⟩ := c.ex
  refine ⟨fun pins s σ H Q I h => ?_⟩
  refine wpAny_Call_Name_kw (ld_glob I hg hm ?_ hdb)
  refine PySem.W.callWith_S2 (h₀ := X.base) I.ok.mod.kin M.kp (thn (ha.run pos pins s σ H _ I h) fun us s1 ⟨vs, H1, I1, r, q⟩ => ⟨I1.kIn, ?_⟩) he hst
  exact run_make M F (hr.mono hk) b d C8.pass0 I1 r q
structure MakN (P : Program) (w : World) (K : PySem.W.Frag) (mg : Str → Option Value) (base : Heap) (k : Nat) (x : Str) (C : Addr) (sp : Sp) (n : Nat) (ks : List Str) (gV : List V → List V → List V) : Prop where
  ex : ∃ (f : Addr) (fd : FuncData) (ps : List Str) (g : List Value → List Value → List Value), Mk K C f ∧ FnOk P w K mg base C8.CX0 k f fd ps sp ∧ mg x = some (.ref C) ∧ KBn K fd ps (n + 1) ks g gV
theorem pe_mkN (c : MakN X.prog X.w X.K X.mg X.base k x C sp n ks gV) (hr : Room j X.A) (hk : k + 1 ≤ j) (hg : Gl X x) (ha : PA X (e :: es) t) (hkw : PK X kws tk)
    (hall : (backToKw pos (keywordEach kws X.env)).all (·.1.isSome) = true := by rfl) (hks : (backToKw pos (keywordEach kws X.env)).filterMap (·.1) = ks := by rfl)
    (hdb : (x == ("__debug__" : Str)) = false := by decide) (he : starEach (e :: es) X.env = (false, eval e X.env) :: starEach es X.env := by rfl)
    (hpl : ((backTo pos (starEach (e :: es) X.env)).any (·.1) || (backToKw pos (keywordEach kws X.env)).any (·.1.isNone)) = false := by rfl) : PE X (.Call (.Name x p) (e :: es) kws pos) (tMakeN C n ks.length sp gV C8.E0 t tk) := by
  obtain ⟨f, fd, ps, g, M, F, hm, hb⟩ := c.ex
  exact pe_makeN M F (hr.mono hk) hg hm hb C8.pass0 ha hkw hall hks hdb he hpl
end
theorem vals_drop : ∀ {vs : List V} {us : List Value} (n : Nat), Vals vs us → Vals (vs.drop n) (us.drop n)
  | _, _, 0, h => h
  | _, _, _ + 1, .nil => .nil
  | _, _, n + 1, .cons _ t => vals_drop n t
end My
namespace My
open PySem PySem.Spec PyProof.Rows L2
/-! ### sorted of a dict, all its keys ints, as many as there are -/
def rSortW : List V → Hp → VK → Prop := fun ws H Q => ∃ (d : Addr) (pairs : List (Key × V)) (ns : List Int), ws = [.ref d] ∧ Rd H d (.dK pairs) ∧ pairs.map (·.1) = ns.map Sum.inl ∧ ns.length ≤ sizeLine ∧
  ∀ (zs : List Int) (q : Addr), zs.Perm ns → zs.Pairwise (· ≤ ·) → H q = none → Q (.ref q) (upd H q (.lst (zs.map V.int)))
section
variable {X : Cx}
theorem sortedW (calm : X.calm = true) : CallR X (.builtin "sorted") rSortW := by
  intro pins st σ H ws us Q inv rel ⟨d, pairs, ns, ew, rd, ek, hz, cont⟩
  subst ew
  obtain ⟨u, eu, ru⟩ := vals1 rel
  subst eu
  cases ru
  obtain ⟨_, lo, kv, rl, dd⟩ := dk_rd inv.hok rd
  obtain ⟨ep, at1⟩ := dd.dictAt
  have keys : kv.map (·.1) = ns.map Sum.inl := rl.keys.symm.trans ek
  have len : kv.length = ns.length := by
    have := congrArg List.length keys
    simpa using this
  refine Calls.call_function_entry kind_sorted plain_sorted entry_sorted (args_sorted1 _) ?_
  unfold Builtin.«sorted»
  refine wpAny_bind (m := checkCount "sorted" 1 1 _) (wpAny_pure ?_)
  refine wpAny_bind (PySem.W.kdu_collect (A := X.A.in1) (PySem.W.kdl_dict (knd := mixKind X.prog X.w) (kvs := kv) (ep := ep) lo) (inv.ok.hd calm) at1 (by rw [len]; exact hz) fun h2 tk got keep hgot => ?_)
  have glen : got.toList.length = ns.length := by rw [Array.length_toList, hgot.1, len]
  have allI : IntsAre got.toList ns := ints_each glen fun j v e => by
    obtain ⟨k, _, e1, e2⟩ := hgot.2 j v (by rw [← Array.getElem?_toList]; exact e)
    have e3 : (ns.map (Sum.inl : Int → Key))[j]? = some k := by rw [← keys, List.getElem?_map, e1]; rfl
    rw [List.getElem?_map] at e3
    cases e4 : ns[j]? with
    | none =>
      rw [e4] at e3
      cases e3
    | some y =>
      rw [e4] at e3
      cases e3
      rcases keyIs_shape (show keyIs (Sum.inl y) v = true from e2) with ⟨i, t, ek, ev⟩ | ⟨z, t, ek, _⟩
      · cases ek
        exact ⟨y, t, rfl, ev⟩
      · cases ek
  have inv2 : Inv X pins σ H { st with heap := h2, toks := tk } := inv.kept keep
  refine wpAny_bind (wpAny_newList ?_ (by rw [glen]; exact hz))
  have here : (h2.push (seqObj "list" got.toList.toArray 0)).get? h2.objs.size = some (seqObj "list" got.toList.toArray 0) := Heap.get?_push_size _ rfl
  show wpAny _ _ _ _ _ { st with heap := h2.push (seqObj "list" got.toList.toArray 0), toks := tk }
  refine wpAny_bind (wpAny_holding (wpAny_call_entry slot_list_sort ⟨_, here, rfl⟩ entry_list_sort (SrtO.list_sort_ord SrtO.swo_int here (by rw [glen]; exact hz) (fun two => SrtO.ints_sortable allI two) fun out o1 o2 => ⟨_, rfl, ?_⟩) (args_list_sort _)))
  obtain ⟨w1, w2, w3⟩ := SrtO.ints_out allI o1 o2
  obtain ⟨ep2, at2⟩ := sortedHeap_at (vs := got.toList) (out := out.toArray) here
  have fits : ((out.map SrtO.iv).map V.int).length ≤ sizeLine := by
    rw [List.length_map, w2.length_eq]
    exact hz
  refine wpAny_pure ⟨_, rfl, .ref h2.objs.size, _, inv2.laid (t' := tk) (fun b o e => ?_) (Nat.le_refl _) (show ObjOk X.prog X.w _ _ _ (.lst ((out.map SrtO.iv).map V.int)) from ⟨fits, out, ep2, vals_of_ints w1, at2⟩), rfl, cont _ _ w2 w3 (inv2.hok.fresh (Nat.le_refl _))⟩
  have lt : b < h2.objs.size := Heap.lt_size e
  rw [sortedHeap_old (Nat.ne_of_lt lt) (by rw [size_push']; exact Nat.lt_succ_of_lt lt)]
  exact Heap.get?_push_of_some _ e
end
end My
namespace My
open PySem PySem.Spec PyProof.Rows L2
/-! ### tuple.count of a text, among texts -/
def rTupCnt (K : PySem.W.Frag) : V → List V → Hp → VK → Prop := fun x xs H Q => ∃ (p : Addr) (ys : List Str) (z : Str), x = .ref p ∧ xs = [.str z] ∧ SqT K H p (ys.map V.str) ∧ Q (.int (ys.count z : Nat)) H
section
variable {X : Cx} {K : PySem.W.Frag}
theorem cnt_vals {z : Str} : ∀ {ys : List Str} {us : List Value}, Vals (ys.map V.str) us → us.countP (eqU (.str z)) = ys.count z
  | [], _, .nil => rfl
  | y :: ys, _, .cons (b := u) r t => by
    obtain ⟨k, rfl⟩ : ∃ k, u = Value.str y k := r
    have h1 := cnt_vals (z := z) t
    rw [List.countP_cons, h1, List.count_cons]
    congr 1
theorem tup_count : MtR X "tuple.count" (rTupCnt X.K) := by
  intro pins st S0 H x xs v us Q inv rel args hyp
  obtain ⟨p, ys, z, ex, exs, seq, cont⟩ := hyp
  subst ex exs
  cases rel
  obtain ⟨u, eu, ru⟩ := vals1 args
  obtain ⟨t, et⟩ := ru
  subst eu et
  obtain ⟨items, rv, plain, small⟩ := inv.tuple seq
  obtain ⟨⟨kind, dic, dat, slo⟩, at1, ek, n, ed⟩ := plain
  simp only at ek ed
  subst ek ed
  refine call_meets PySem.F.slot_tuple_count ⟨_, at1, rfl⟩ PySem.F.entry_tuple_count (PySem.F.args_tuple_count_2 _ _)
    (SeqAt.tuple_countAt p items.toArray n dic slo (.str z t) (eqU (.str z))) ⟨at1, fun w hw => mem_eqAt (x := .str z) ⟨t, rfl⟩ rfl rv (flat_strs ys) w (by simpa using hw), ?_⟩
  rw [show items.toArray.toList.countP (eqU (.str z)) = ys.count z from cnt_vals rv]
  exact ⟨.int (ys.count z : Nat), H, inv.tok _, ⟨_, rfl⟩, cont⟩
/-- tuple(list): what is made is held as it stands, with no dict -/
def rTupleNew (K : PySem.W.Frag) : List V → Hp → VK → Prop := fun xs H Q => ∃ p ys, xs = [.ref p] ∧ SqL K H p ys ∧ ∀ l o, H l = none → o.dict = Option.none → Q (.ref l) (upd H l (.frz o (.tup ys)))
theorem tuple_new : CallR X (.type "tuple") (rTupleNew X.K) := by
  intro pins st S0 H xs us Q inv args hyp
  obtain ⟨p, ys, ex, seq, cont⟩ := hyp
  subst ex
  obtain ⟨u, eu, ru⟩ := vals1 args
  subst eu
  cases ru
  obtain ⟨items, rv, plain, small⟩ := inv.list seq
  have len := rv.length
  refine call_tuple_list plain.isList (fun h1 keep => ?_) (by simp only [List.size_toArray] <;> omega)
  have I1 : Inv X pins S0 H { st with heap := h1 } := inv.kept (t' := st.toks) keep
  have new : (h1.push { cls := .type "tuple", data := .seq items.toArray }).get? h1.objs.size = some { cls := .type "tuple", data := .seq items.toArray } := Heap.get?_push_size _ rfl
  have I2 : Inv X pins S0 (upd H h1.objs.size (.frz { cls := .type "tuple", data := .seq items.toArray } (.tup ys))) { st with heap := h1.push { cls := .type "tuple", data := .seq items.toArray } } :=
    I1.laid (t' := st.toks) (fun b o e => Heap.get?_push_of_some _ e) (Nat.le_refl _) (show ObjOk X.prog X.w _ _ _ (.frz _ (.tup ys)) from ⟨new, small, items, rv, IsTup.new _ _⟩)
  exact ⟨.ref h1.objs.size, _, I2, rfl, cont _ _ (I1.hok.fresh (Nat.le_refl _)) rfl⟩
theorem tuple_newK (h : X.K = K) : CallR X (.type "tuple") (rTupleNew K) := by subst h; exact tuple_new
/-- a tuple with no dict -/
def FrzT (H : Hp) (p : Addr) : Prop := ∃ o xs, H p = some (.frz o (.tup xs)) ∧ o.dict = Option.none
def tBMT (r : V → List V → Hp → VK → Prop) (to : TE) (t : TA) : TE := fun σ H Q => to σ H fun x H1 => (∃ p, x = .ref p ∧ FrzT H1 p) ∧ t σ H1 fun xs H2 => r x xs H2 Q
theorem pe_bmT {o e : Expr} {es : List Expr} {to : TE} {t : TA} {name : Str} {apos cpos : Pos} {id : String} {r : V → List V → Hp → VK → Prop} (pa : PlainAttrs "tuple") (slot : Slot "tuple" name id) (hty : typeOf (.builtin id) = pure (.type "method_descriptor")) (hm : MtR X id r) (ho : PE X o to) (ha : PA X (e :: es) t)
    (base : attributeBase o name X.env (eval o X.env) = eval o X.env := by rfl)
    (few : ((backTo cpos (starEach (e :: es) X.env)).all (fun z => !z.1) && (backToKw cpos (keywordEach [] X.env)).all (fun z => z.1.isSome) && decide ((e :: es).length + ([] : List Keyword).length + (if ([] : List Keyword).isEmpty then 0 else 1) < 30)) = true := by rfl)
    (line : (apos.endLine == cpos.line) = true := by rfl) (star : starEach (e :: es) X.env = (false, eval e X.env) :: starEach es X.env := by rfl) (plain : (backTo cpos (starEach es X.env)).any (·.1) = false := by rfl) :
    PE X (.Call (.Attribute o name apos) (e :: es) [] cpos) (tBMT r to t) := by
  refine ⟨fun pins st S0 H Q I h => ?_⟩
  refine wpAny_Call_method_late base few line rfl (thn (ho.run pins st S0 H _ I h) fun v s1 ⟨x, H1, I1, r1, ty, q1⟩ => ?_)
  obtain ⟨p, ex, ob, xs, hp, hd⟩ := ty
  subst ex
  cases r1
  obtain ⟨e1, _, _, _, ob2, e2, ek, _⟩ := (show ObjOk X.prog X.w H1 s1.heap p (.frz ob (.tup xs)) from I1.hok p _ hp)
  have eo : ob2 = ob := by
    rw [e1] at e2
    exact (Option.some.inj e2).symm
  subst eo
  refine ⟨"tuple", id, pa, slot, hty, ⟨ob2, e1, ek⟩, fun a ea => by cases ea; exact ⟨ob2, e1, hd⟩, ?_⟩
  have run := ha.run cpos pins s1 S0 H1 _ I1 q1
  rw [star] at run ⊢
  refine Calls.callWith_builtin (by show (false || (backTo cpos (starEach es X.env)).any (·.1)) = false; rw [plain]; rfl) (Calls.evalArgs_plain ?_)
  exact thn run fun us s2 ⟨vs, H2, I2, r2, q2⟩ => hm pins s2 S0 H2 (.ref p) vs (.ref p) us Q I2 rfl r2 q2
theorem FrzT.same {H H' : Hp} {p : Addr} (s : Same H H') (h : FrzT H p) : FrzT H' p := by
  obtain ⟨o, xs, e, d⟩ := h
  exact ⟨o, xs, s _ _ e, d⟩
theorem tup_countK (h : X.K = K) : MtR X "tuple.count" (rTupCnt K) := by subst h; exact tup_count
end
end My

namespace My
open PySem PySem.Spec PyProof.Rows L2
set_option maxHeartbeats 4000000
/-! ### tuple * int, also by 0 and by 1 -/
theorem mul_once (l : Addr) (items : Array Value) (n : Nat) (dd : Option Addr) (sl : Array (Option Value)) (u : Tok) :
    Meets (Builtin.«tuple.__mul__» ⟨[.ref l, .int 1 u], []⟩) (fun _ R s => s.heap.get? l = some { cls := .type "tuple", dict := dd, data := .seq items n, slots := sl } ∧ R (.ok (.ret (Value.ref l))) s) := .of_wp fun prog w A R s hyp => by
  obtain ⟨hp, g, d, tk, os⟩ := s
  obtain ⟨at1, cont⟩ := hyp
  have f1 := AutoSeq1.idx_int
  wp_walk using wpAny_loadPart' at1
  exact ⟨_, rfl, cont⟩
theorem mul_none (l : Addr) (items : Array Value) (n : Nat) (dd : Option Addr) (sl : Array (Option Value)) (u : Tok) (c1 : items.isEmpty = false) :
    Meets (Builtin.«tuple.__mul__» ⟨[.ref l, .int 0 u], []⟩) (fun _ R s => s.heap.get? l = some { cls := .type "tuple", dict := dd, data := .seq items n, slots := sl } ∧ R (.ok (.ret (Value.ref s.heap.objs.size))) { s with heap := s.heap.push { cls := Value.type "tuple", data := Data.seq #[] }, toks := s.toks }) := .of_wp fun prog w A R s hyp => by
  obtain ⟨hp, g, d, tk, os⟩ := s
  obtain ⟨at1, cont⟩ := hyp
  have f1 := AutoSeq1.idx_int
  wp_walk using wpAny_loadPart' at1
  exact ⟨_, rfl, cont⟩
def rRepA (K : PySem.W.Frag) : R2 := fun x y H Q => ∃ l k xs, x = .ref l ∧ y = .int k ∧ SqT K H l xs ∧ xs ≠ [] ∧ 0 ≤ k ∧ k ≤ 1000 ∧ xs.length ≤ 1000 ∧ (k = 1 → Q (.ref l) H) ∧ (k ≠ 1 → ∀ p, H p = none → Q (.ref p) (upd H p (.tup (List.replicate k.toNat xs).flatten)))
section
variable {X : Cx}
theorem op_repA : OpR X (binaryOp .Mult) (rRepA X.K) := by
  intro pins st S0 H x y v u Q inv rel rel2 hyp
  obtain ⟨l, k, xs, ex, ey, seq, hne, h0, h1, hz, q1, q2⟩ := hyp
  subst ex ey
  by_cases k2 : 2 ≤ k
  · exact op_repT pins st S0 H _ _ v u Q inv rel rel2 ⟨l, k, xs, rfl, rfl, seq, hne, k2, h1, hz, q2 (by omega)⟩
  cases rel
  obtain ⟨t, et⟩ := rel2
  subst et
  obtain ⟨items, rv, plain, small⟩ := inv.tuple seq
  obtain ⟨⟨kind, dic, dat, slo⟩, at1, ek, n, ed⟩ := plain
  simp only at ek ed
  subst ek ed
  have full : items.toArray.isEmpty = false := by
    cases items with
    | nil => exact absurd (List.eq_nil_of_length_eq_zero rv.length) hne
    | cons a b => rfl
  rcases (show k = 0 ∨ k = 1 by omega) with e | e
  · subst e
    refine wpAny_binaryOp_repeat_ref (T := "tuple") (U := "int") (by decide) ⟨_, at1, rfl⟩ (fun s2 => typeIs_int s2 0 t) noFill_tuple_mul F.fills_int_mul F.slot_int_rmul repeat_tuple F.slot_int_index.lookup
      (call_meets F.slot_int_rmul (typeIs_int st 0 t) F.entry_int_rmul (F.args_int_rmul_2 _ _) (int_rmul_tuple 0 t l items.toArray n dic slo) ⟨at1, rfl, ⟨_, at1, rfl⟩, call_meets F.slot_tuple_mul ⟨_, at1, rfl⟩ F.entry_tuple_mul (F.args_tuple_mul_2 _ _) (mul_none l items.toArray n dic slo t full) ⟨at1, ?_⟩⟩)
    exact ⟨.ref st.heap.objs.size, _, inv.laid (t' := st.toks) (o := .tup []) (fun b ob q => Heap.get?_push_of_some _ q) (Nat.le_refl _) ⟨Nat.zero_le _, [], .nil, IsTup.new _ _⟩, rfl, q2 (by decide) _ (inv.hok.fresh (Nat.le_refl _))⟩
  · subst e
    refine wpAny_binaryOp_repeat_ref (T := "tuple") (U := "int") (by decide) ⟨_, at1, rfl⟩ (fun s2 => typeIs_int s2 1 t) noFill_tuple_mul F.fills_int_mul F.slot_int_rmul repeat_tuple F.slot_int_index.lookup
      (call_meets F.slot_int_rmul (typeIs_int st 1 t) F.entry_int_rmul (F.args_int_rmul_2 _ _) (int_rmul_tuple 1 t l items.toArray n dic slo) ⟨at1, rfl, ⟨_, at1, rfl⟩, call_meets F.slot_tuple_mul ⟨_, at1, rfl⟩ F.entry_tuple_mul (F.args_tuple_mul_2 _ _) (mul_once l items.toArray n dic slo t) ⟨at1, ?_⟩⟩)
    exact ⟨.ref l, H, inv, rfl, q1 rfl⟩
theorem repAK {K : PySem.W.Frag} (h : X.K = K) : OpR X (binaryOp .Mult) (rRepA K) := by subst h; exact op_repA
end
end My
set_option maxHeartbeats 0
namespace K29
open PySem PySem.Spec PyProof.Rows L2
def top (i : Nat) : Stmt := PySem.Challenge.pw_lockerwall_k29_faults_one_by_one.main.body.getD i (.Pass ⟨0, 0, 0, 0⟩)
abbrev s_wall : Stmt := top 0
abbrev N_wall : List Str := ["k"]
theorem sc_wall : FnScope N_wall ["k"] (defScope s_wall) := C8.fnScope_by (by decide +kernel)
def d_wall : He.DefD := ⟨("_wall", none), "_wall", "_wall", defArgs s_wall, defBody s_wall, defScope s_wall, [], []⟩
abbrev s_Told_init : Stmt := inClass (top 2) 0
abbrev N_Told_init : List Str := ["self"]
theorem sc_Told_init : FnScope N_Told_init ["self"] (defScope s_Told_init) := C8.fnScope_by (by decide +kernel)
def d_Told_init : He.DefD := ⟨("Told", some "__init__"), "__init__", "Told.__init__", defArgs s_Told_init, defBody s_Told_init, defScope s_Told_init, [], []⟩
abbrev s_Told_report : Stmt := inClass (top 2) 1
abbrev N_Told_report : List Str := ["self"]
theorem sc_Told_report : FnScope N_Told_report ["self"] (defScope s_Told_report) := C8.fnScope_by (by decide +kernel)
def d_Told_report : He.DefD := ⟨("Told", some "report"), "report", "Told.report", defArgs s_Told_report, defBody s_Told_report, defScope s_Told_report, [], []⟩
abbrev s_Box_init : Stmt := inClass (top 3) 0
abbrev N_Box_init : List Str := ["self"]
theorem sc_Box_init : FnScope N_Box_init ["self"] (defScope s_Box_init) := C8.fnScope_by (by decide +kernel)
def d_Box_init : He.DefD := ⟨("Box", some "__init__"), "__init__", "Box.__init__", defArgs s_Box_init, defBody s_Box_init, defScope s_Box_init, [], []⟩
abbrev s_Box_copied : Stmt := inClass (top 3) 1
abbrev N_Box_copied : List Str := ["self"]
theorem sc_Box_copied : FnScope N_Box_copied ["self"] (defScope s_Box_copied) := C8.fnScope_by (by decide +kernel)
def d_Box_copied : He.DefD := ⟨("Box", some "copied"), "copied", "Box.copied", defArgs s_Box_copied, defBody s_Box_copied, defScope s_Box_copied, [], []⟩
abbrev s_Box_stands : Stmt := inClass (top 3) 2
abbrev N_Box_stands : List Str := ["self"]
theorem sc_Box_stands : FnScope N_Box_stands ["self"] (defScope s_Box_stands) := C8.fnScope_by (by decide +kernel)
def d_Box_stands : He.DefD := ⟨("Box", some "stands"), "stands", "Box.stands", defArgs s_Box_stands, defBody s_Box_stands, defScope s_Box_stands, [], []⟩
abbrev s_Box_bring : Stmt := inClass (top 3) 3
abbrev N_Box_bring : List Str := ["self", "book", "parcel", "lays", "shuts", "told"]
theorem sc_Box_bring : FnScope N_Box_bring ["self", "book", "parcel", "lays", "shuts"] (defScope s_Box_bring) := C8.fnScope_by (by decide +kernel)
def d_Box_bring : He.DefD := ⟨("Box", some "bring"), "bring", "Box.bring", defArgs s_Box_bring, defBody s_Box_bring, defScope s_Box_bring, [], []⟩
abbrev s_Box_code : Stmt := inClass (top 3) 4
abbrev N_Box_code : List Str := ["self", "book", "parcel", "takes", "shuts", "told", "missing"]
theorem sc_Box_code : FnScope N_Box_code ["self", "book", "parcel", "takes", "shuts"] (defScope s_Box_code) := C8.fnScope_by (by decide +kernel)
def d_Box_code : He.DefD := ⟨("Box", some "code"), "code", "Box.code", defArgs s_Box_code, defBody s_Box_code, defScope s_Box_code, [], []⟩
abbrev s_Box_pass_by : Stmt := inClass (top 3) 5
abbrev N_Box_pass_by : List Str := ["self", "told"]
theorem sc_Box_pass_by : FnScope N_Box_pass_by ["self"] (defScope s_Box_pass_by) := C8.fnScope_by (by decide +kernel)
def d_Box_pass_by : He.DefD := ⟨("Box", some "pass_by"), "pass_by", "Box.pass_by", defArgs s_Box_pass_by, defBody s_Box_pass_by, defScope s_Box_pass_by, [], []⟩
abbrev s_Box_day : Stmt := inClass (top 3) 6
abbrev N_Box_day : List Str := ["self", "book", "told"]
theorem sc_Box_day : FnScope N_Box_day ["self", "book"] (defScope s_Box_day) := C8.fnScope_by (by decide +kernel)
def d_Box_day : He.DefD := ⟨("Box", some "day"), "day", "Box.day", defArgs s_Box_day, defBody s_Box_day, defScope s_Box_day, [], []⟩
abbrev s_Box_power : Stmt := inClass (top 3) 7
abbrev N_Box_power : List Str := ["self", "book", "told"]
theorem sc_Box_power : FnScope N_Box_power ["self", "book"] (defScope s_Box_power) := C8.fnScope_by (by decide +kernel)
def d_Box_power : He.DefD := ⟨("Box", some "power"), "power", "Box.power", defArgs s_Box_power, defBody s_Box_power, defScope s_Box_power, [], []⟩
abbrev s_Box_let_take : Stmt := inClass (top 3) 8
abbrev N_Box_let_take : List Str := ["self", "own", "told", "parcel"]
theorem sc_Box_let_take : FnScope N_Box_let_take ["self", "own", "told"] (defScope s_Box_let_take) := C8.fnScope_by (by decide +kernel)
def d_Box_let_take : He.DefD := ⟨("Box", some "_let_take"), "_let_take", "Box._let_take", defArgs s_Box_let_take, defBody s_Box_let_take, defScope s_Box_let_take, [], []⟩
abbrev s_Box_go_away : Stmt := inClass (top 3) 9
abbrev N_Box_go_away : List Str := ["self", "book", "shuts", "moments", "told", "when_shut", "when_left"]
theorem sc_Box_go_away : FnScope N_Box_go_away ["self", "book", "shuts", "moments", "told"] (defScope s_Box_go_away) := C8.fnScope_by (by decide +kernel)
def d_Box_go_away : He.DefD := ⟨("Box", some "_go_away"), "_go_away", "Box._go_away", defArgs s_Box_go_away, defBody s_Box_go_away, defScope s_Box_go_away, [], []⟩
abbrev s_Box_carry_out : Stmt := inClass (top 3) 10
abbrev N_Box_carry_out : List Str := ["self", "book", "moment", "told", "action"]
theorem sc_Box_carry_out : FnScope N_Box_carry_out ["self", "book", "moment", "told"] (defScope s_Box_carry_out) := C8.fnScope_by (by decide +kernel)
def d_Box_carry_out : He.DefD := ⟨("Box", some "_carry_out"), "_carry_out", "Box._carry_out", defArgs s_Box_carry_out, defBody s_Box_carry_out, defScope s_Box_carry_out, [], []⟩
abbrev s_Box_act : Stmt := inClass (top 3) 11
abbrev N_Box_act : List Str := ["self", "action", "told"]
theorem sc_Box_act : FnScope N_Box_act ["self", "action", "told"] (defScope s_Box_act) := C8.fnScope_by (by decide +kernel)
def d_Box_act : He.DefD := ⟨("Box", some "_act"), "_act", "Box._act", defArgs s_Box_act, defBody s_Box_act, defScope s_Box_act, [], []⟩
abbrev s_Box_send_code : Stmt := inClass (top 3) 12
abbrev N_Box_send_code : List Str := ["self", "told"]
theorem sc_Box_send_code : FnScope N_Box_send_code ["self", "told"] (defScope s_Box_send_code) := C8.fnScope_by (by decide +kernel)
def d_Box_send_code : He.DefD := ⟨("Box", some "_send_code"), "_send_code", "Box._send_code", defArgs s_Box_send_code, defBody s_Box_send_code, defScope s_Box_send_code, [], []⟩
abbrev s_do_deed : Stmt := top 4
abbrev N_do_deed : List Str := ["book", "box", "deed", "parcel", "word"]
theorem sc_do_deed : FnScope N_do_deed ["book", "box", "deed", "parcel"] (defScope s_do_deed) := C8.fnScope_by (by decide +kernel)
def d_do_deed : He.DefD := ⟨("do_deed", none), "do_deed", "do_deed", defArgs s_do_deed, defBody s_do_deed, defScope s_do_deed, [], []⟩
abbrev s_is_integer_within : Stmt := top 6
abbrev N_is_integer_within : List Str := ["value", "low", "high"]
theorem sc_is_integer_within : FnScope N_is_integer_within ["value", "low", "high"] (defScope s_is_integer_within) := C8.fnScope_by (by decide +kernel)
def d_is_integer_within : He.DefD := ⟨("is_integer_within", none), "is_integer_within", "is_integer_within", defArgs s_is_integer_within, defBody s_is_integer_within, defScope s_is_integer_within, [], []⟩
abbrev s_is_truth : Stmt := top 7
abbrev N_is_truth : List Str := ["value"]
theorem sc_is_truth : FnScope N_is_truth ["value"] (defScope s_is_truth) := C8.fnScope_by (by decide +kernel)
def d_is_truth : He.DefD := ⟨("is_truth", none), "is_truth", "is_truth", defArgs s_is_truth, defBody s_is_truth, defScope s_is_truth, [], []⟩
abbrev s_is_word : Stmt := top 8
abbrev N_is_word : List Str := ["value", "words"]
theorem sc_is_word : FnScope N_is_word ["value", "words"] (defScope s_is_word) := C8.fnScope_by (by decide +kernel)
def d_is_word : He.DefD := ⟨("is_word", none), "is_word", "is_word", defArgs s_is_word, defBody s_is_word, defScope s_is_word, [], []⟩
abbrev s_are_truths : Stmt := top 19
abbrev N_are_truths : List Str := ["values", "value"]
theorem sc_are_truths : FnScope N_are_truths ["values"] (defScope s_are_truths) := C8.fnScope_by (by decide +kernel)
def d_are_truths : He.DefD := ⟨("are_truths", none), "are_truths", "are_truths", defArgs s_are_truths, defBody s_are_truths, defScope s_are_truths, [], []⟩
abbrev s_is_deed : Stmt := top 20
abbrev N_is_deed : List Str := ["value", "word"]
theorem sc_is_deed : FnScope N_is_deed ["value"] (defScope s_is_deed) := C8.fnScope_by (by decide +kernel)
def d_is_deed : He.DefD := ⟨("is_deed", none), "is_deed", "is_deed", defArgs s_is_deed, defBody s_is_deed, defScope s_is_deed, [], []⟩
abbrev s_check_are_deeds : Stmt := top 21
abbrev N_check_are_deeds : List Str := ["deeds", "index", "deed"]
theorem sc_check_are_deeds : FnScope N_check_are_deeds ["deeds"] (defScope s_check_are_deeds) := C8.fnScope_by (by decide +kernel)
def d_check_are_deeds : He.DefD := ⟨("check_are_deeds", none), "check_are_deeds", "check_are_deeds", defArgs s_check_are_deeds, defBody s_check_are_deeds, defScope s_check_are_deeds, [], []⟩
abbrev s_check_playable : Stmt := top 22
abbrev N_check_playable : List Str := ["deeds", "brought", "index", "deed"]
theorem sc_check_playable : FnScope N_check_playable ["deeds"] (defScope s_check_playable) := C8.fnScope_by (by decide +kernel)
def d_check_playable : He.DefD := ⟨("check_playable", none), "check_playable", "check_playable", defArgs s_check_playable, defBody s_check_playable, defScope s_check_playable, [], []⟩
abbrev s_played : Stmt := top 24
abbrev N_played : List Str := ["book", "deeds", "box", "brought", "story", "deed"]
theorem sc_played : FnScope N_played ["book", "deeds"] (defScope s_played) := C8.fnScope_by (by decide +kernel)
def d_played : He.DefD := ⟨("played", none), "played", "played", defArgs s_played, defBody s_played, defScope s_played, [], []⟩
abbrev s_faults : Stmt := top 25
abbrev N_faults : List Str := ["book", "deeds", "_", "story", "index", "told", "kind"]
theorem sc_faults : FnScope N_faults ["book", "deeds"] (defScope s_faults) := C8.fnScope_by (by decide +kernel)
def d_faults : He.DefD := ⟨("faults", none), "faults", "faults", defArgs s_faults, defBody s_faults, defScope s_faults, [], []⟩
abbrev s_is_rule : Stmt := top 31
abbrev N_is_rule : List Str := ["value", "action"]
theorem sc_is_rule : FnScope N_is_rule ["value"] (defScope s_is_rule) := C8.fnScope_by (by decide +kernel)
def d_is_rule : He.DefD := ⟨("is_rule", none), "is_rule", "is_rule", defArgs s_is_rule, defBody s_is_rule, defScope s_is_rule, [], []⟩
abbrev s_Book_init : Stmt := inClass (top 32) 0
abbrev N_Book_init : List Str := ["self", "days", "given", "laid", "left", "opened", "taken", "gone", "late", "power", "rules", "moment", "rule"]
theorem sc_Book_init : FnScope N_Book_init ["self", "days", "given", "laid", "left", "opened", "taken", "gone", "late", "power"] (defScope s_Book_init) := C8.fnScope_by (by decide +kernel)
def d_Book_init : He.DefD := ⟨("Book", some "__init__"), "__init__", "Book.__init__", defArgs s_Book_init, defBody s_Book_init, defScope s_Book_init, [.adr (He.dflAt ("Book", some "__init__") 0), .adr (He.dflAt ("Book", some "__init__") 1), .adr (He.dflAt ("Book", some "__init__") 2), .adr (He.dflAt ("Book", some "__init__") 3), .adr (He.dflAt ("Book", some "__init__") 4), .adr (He.dflAt ("Book", some "__init__") 5), .adr (He.dflAt ("Book", some "__init__") 6), .adr (He.dflAt ("Book", some "__init__") 7)], []⟩
abbrev s_Book_eq : Stmt := inClass (top 32) 1
abbrev N_Book_eq : List Str := ["self", "other"]
theorem sc_Book_eq : FnScope N_Book_eq ["self", "other"] (defScope s_Book_eq) := C8.fnScope_by (by decide +kernel)
def d_Book_eq : He.DefD := ⟨("Book", some "__eq__"), "__eq__", "Book.__eq__", defArgs s_Book_eq, defBody s_Book_eq, defScope s_Book_eq, [], []⟩
abbrev s_Book_days : Stmt := inClass (top 32) 2
abbrev N_Book_days : List Str := ["self"]
theorem sc_Book_days : FnScope N_Book_days ["self"] (defScope s_Book_days) := C8.fnScope_by (by decide +kernel)
def d_Book_days : He.DefD := ⟨("Book", some "days"), "days", "Book.days", defArgs s_Book_days, defBody s_Book_days, defScope s_Book_days, [], []⟩
abbrev s_Book_rule : Stmt := inClass (top 32) 3
abbrev N_Book_rule : List Str := ["self", "moment"]
theorem sc_Book_rule : FnScope N_Book_rule ["self", "moment"] (defScope s_Book_rule) := C8.fnScope_by (by decide +kernel)
def d_Book_rule : He.DefD := ⟨("Book", some "rule"), "rule", "Book.rule", defArgs s_Book_rule, defBody s_Book_rule, defScope s_Book_rule, [], []⟩
abbrev s_Book_rules : Stmt := inClass (top 32) 4
abbrev N_Book_rules : List Str := ["self"]
theorem sc_Book_rules : FnScope N_Book_rules ["self"] (defScope s_Book_rules) := C8.fnScope_by (by decide +kernel)
def d_Book_rules : He.DefD := ⟨("Book", some "rules"), "rules", "Book.rules", defArgs s_Book_rules, defBody s_Book_rules, defScope s_Book_rules, [], []⟩
abbrev s_Book_with_rule : Stmt := inClass (top 32) 5
abbrev N_Book_with_rule : List Str := ["self", "moment", "rule"]
theorem sc_Book_with_rule : FnScope N_Book_with_rule ["self", "moment", "rule"] (defScope s_Book_with_rule) := C8.fnScope_by (by decide +kernel)
def d_Book_with_rule : He.DefD := ⟨("Book", some "with_rule"), "with_rule", "Book.with_rule", defArgs s_Book_with_rule, defBody s_Book_with_rule, defScope s_Book_with_rule, [], []⟩
abbrev s_Book_with_days : Stmt := inClass (top 32) 6
abbrev N_Book_with_days : List Str := ["self", "days"]
theorem sc_Book_with_days : FnScope N_Book_with_days ["self", "days"] (defScope s_Book_with_days) := C8.fnScope_by (by decide +kernel)
def d_Book_with_days : He.DefD := ⟨("Book", some "with_days"), "with_days", "Book.with_days", defArgs s_Book_with_days, defBody s_Book_with_days, defScope s_Book_with_days, [], []⟩
abbrev s_Book_taking : Stmt := inClass (top 32) 7
abbrev N_Book_taking : List Str := ["self", "good", "moments"]
theorem sc_Book_taking : FnScope N_Book_taking ["self", "good", "moments"] (defScope s_Book_taking) := C8.fnScope_by (by decide +kernel)
def d_Book_taking : He.DefD := ⟨("Book", some "taking"), "taking", "Book.taking", defArgs s_Book_taking, defBody s_Book_taking, defScope s_Book_taking, [], []⟩
abbrev s_law_spring : Stmt := top 34
abbrev N_law_spring : List Str := ["script", "k", "cell"]
theorem sc_law_spring : FnScope N_law_spring ["script", "k"] (defScope s_law_spring) := C8.fnScope_by (by decide +kernel)
def d_law_spring : He.DefD := ⟨("_law_spring", none), "_law_spring", "_law_spring", defArgs s_law_spring, defBody s_law_spring, defScope s_law_spring, [], []⟩
abbrev s_law_drop : Stmt := top 35
abbrev N_law_drop : List Str := ["spring", "many", "found", "stirred"]
theorem sc_law_drop : FnScope N_law_drop ["spring", "many"] (defScope s_law_drop) := C8.fnScope_by (by decide +kernel)
def d_law_drop : He.DefD := ⟨("_law_drop", none), "_law_drop", "_law_drop", defArgs s_law_drop, defBody s_law_drop, defScope s_law_drop, [], []⟩
abbrev s_law_made : Stmt := top 36
abbrev N_law_made : List Str := ["limit", "rules"]
theorem sc_law_made : FnScope N_law_made ["limit", "rules"] (defScope s_law_made) := C8.fnScope_by (by decide +kernel)
def d_law_made : He.DefD := ⟨("_law_made", none), "_law_made", "_law_made", defArgs s_law_made, defBody s_law_made, defScope s_law_made, [], []⟩
abbrev s_law_is_whole : Stmt := top 37
abbrev N_law_is_whole : List Str := ["thing"]
theorem sc_law_is_whole : FnScope N_law_is_whole ["thing"] (defScope s_law_is_whole) := C8.fnScope_by (by decide +kernel)
def d_law_is_whole : He.DefD := ⟨("_law_is_whole", none), "_law_is_whole", "_law_is_whole", defArgs s_law_is_whole, defBody s_law_is_whole, defScope s_law_is_whole, [], []⟩
abbrev s_law_wrong : Stmt := top 38
abbrev N_law_wrong : List Str := ["work", "acts", "due", "kept", "told", "one"]
theorem sc_law_wrong : FnScope N_law_wrong ["work", "acts", "due"] (defScope s_law_wrong) := C8.fnScope_by (by decide +kernel)
def d_law_wrong : He.DefD := ⟨("_law_wrong", none), "_law_wrong", "_law_wrong", defArgs s_law_wrong, defBody s_law_wrong, defScope s_law_wrong, [], []⟩
abbrev s_law_each : Stmt := top 39
abbrev N_law_each : List Str := ["word", "first", "behind", "step", "k"]
theorem sc_law_each : FnScope N_law_each ["word", "first", "behind", "step"] (defScope s_law_each) := C8.fnScope_by (by decide +kernel)
def d_law_each : He.DefD := ⟨("_law_each", none), "_law_each", "_law_each", defArgs s_law_each, defBody s_law_each, defScope s_law_each, [.int 1], []⟩
abbrev s_law_laid : Stmt := top 40
abbrev N_law_laid : List Str := ["spring", "rules", "many", "way", "bring", "acts", "k"]
theorem sc_law_laid : FnScope N_law_laid ["spring", "rules", "many"] (defScope s_law_laid) := C8.fnScope_by (by decide +kernel)
def d_law_laid : He.DefD := ⟨("_law_laid", none), "_law_laid", "_law_laid", defArgs s_law_laid, defBody s_law_laid, defScope s_law_laid, [], []⟩
abbrev s_law_opened : Stmt := top 41
abbrev N_law_opened : List Str := ["spring", "rules", "many", "way", "code", "one", "two", "acts", "found"]
theorem sc_law_opened : FnScope N_law_opened ["spring", "rules", "many"] (defScope s_law_opened) := C8.fnScope_by (by decide +kernel)
def d_law_opened : He.DefD := ⟨("_law_opened", none), "_law_opened", "_law_opened", defArgs s_law_opened, defBody s_law_opened, defScope s_law_opened, [], []⟩
abbrev s_law_refused : Stmt := top 42
abbrev N_law_refused : List Str := ["spring", "rules", "many", "way", "code", "is_sent", "acts"]
theorem sc_law_refused : FnScope N_law_refused ["spring", "rules", "many"] (defScope s_law_refused) := C8.fnScope_by (by decide +kernel)
def d_law_refused : He.DefD := ⟨("_law_refused", none), "_law_refused", "_law_refused", defArgs s_law_refused, defBody s_law_refused, defScope s_law_refused, [], []⟩
abbrev s_law_right : Stmt := top 43
abbrev N_law_right : List Str := ["spring", "rules", "way", "many", "limit", "acts", "found"]
theorem sc_law_right : FnScope N_law_right ["spring"] (defScope s_law_right) := C8.fnScope_by (by decide +kernel)
def d_law_right : He.DefD := ⟨("_law_right", none), "_law_right", "_law_right", defArgs s_law_right, defBody s_law_right, defScope s_law_right, [], []⟩
abbrev s_law : Stmt := top 44
abbrev N_law : List Str := ["script", "k"]
theorem sc_law : FnScope N_law ["script"] (defScope s_law) := C8.fnScope_by (by decide +kernel)
def d_law : He.DefD := ⟨("law", none), "law", "law", defArgs s_law, defBody s_law, defScope s_law, [], []⟩
def fa0 : List He.Fa := [.glo "_wall", .glo "do_deed", .glo "is_integer_within", .glo "is_truth", .glo "is_word", .glo "are_truths", .glo "is_deed", .glo "check_are_deeds", .glo "check_playable", .glo "played", .glo "faults", .glo "is_rule", .glo "_law_spring", .glo "_law_drop", .glo "_law_made", .glo "_law_is_whole", .glo "_law_wrong", .glo "_law_each", .glo "_law_laid", .glo "_law_opened"]
def fa1 : List He.Fa := [.glo "_law_refused", .glo "_law_right", .glo "law", .glo "Told", .glo "Box", .glo "Book", .glo "WallError", .glo "NoDays", .glo "NoRule", .glo "NoMoment", .glo "NoDeed", .glo "NoParcel", .int "MOST_PARCEL" 1000000000, .glo "SINGLE_WORDS", .glo "ACTIONS", .glo "MOMENTS", .int "MOST_ACTIONS" 6, .int "MOST_DAYS" 30, .free "len", .free "abs"]
def fa2 : List He.Fa := [.free "max", .free "min", .free "isinstance", .free "all", .free "any", .free "zip", .free "enumerate", .free "super", .free "ValueError", .free "int", .free "str", .free "bool", .free "list", .free "tuple", .free "range", .cls "Told", .noat "Told" "letters", .noat "Told" "opened", .noat "Told" "got", .noat "Told" "lays"]
def fa3 : List He.Fa := [.noat "Told" "wrongs", .noat "Told" "moments", .meth "Told" "report", .mkr "Told", .cls "Box", .noat "Box" "ajar", .noat "Box" "inside", .noat "Box" "taken_for", .noat "Box" "valid", .noat "Box" "age", .noat "Box" "last", .noat "Box" "sent", .noat "Box" "served", .meth "Box" "copied", .meth "Box" "stands", .meth "Box" "bring", .meth "Box" "code", .meth "Box" "pass_by", .meth "Box" "day", .meth "Box" "power"]
def fa4 : List He.Fa := [.meth "Box" "_let_take", .meth "Box" "_go_away", .meth "Box" "_carry_out", .meth "Box" "_act", .meth "Box" "_send_code", .mkr "Box", .cls "Book", .noat "Book" "_days", .noat "Book" "_rules", .meth "Book" "__eq__", .meth "Book" "days", .meth "Book" "rule", .meth "Book" "rules", .meth "Book" "with_rule", .meth "Book" "with_days", .meth "Book" "taking", .mkr "Book"]
def fa : List He.Fa := fa0 ++ fa1 ++ fa2 ++ fa3 ++ fa4
def fn0 : List He.DefD := [d_wall, d_Told_init, d_Told_report, d_Box_init, d_Box_copied, d_Box_stands, d_Box_bring, d_Box_code, d_Box_pass_by, d_Box_day, d_Box_power, d_Box_let_take, d_Box_go_away, d_Box_carry_out, d_Box_act, d_Box_send_code, d_do_deed, d_is_integer_within, d_is_truth, d_is_word]
def fn1 : List He.DefD := [d_are_truths, d_is_deed, d_check_are_deeds, d_check_playable, d_played, d_faults, d_is_rule, d_Book_init, d_Book_eq, d_Book_days, d_Book_rule, d_Book_rules, d_Book_with_rule, d_Book_with_days, d_Book_taking, d_law_spring, d_law_drop, d_law_made, d_law_is_whole, d_law_wrong]
def fn2 : List He.DefD := [d_law_each, d_law_laid, d_law_opened, d_law_refused, d_law_right, d_law]
def fn : List He.DefD := fn0 ++ fn1 ++ fn2
def exl (K : PySem.W.Frag) : List Bool := [My.tupAt K (He.ga K "SINGLE_WORDS") [.str "pass", .str "day", .str "power"], My.tupAt K (He.ga K "ACTIONS") [.str "free", .str "full", .str "off", .str "code", .str "void", .str "look", .str "lock"], My.tupAt K (He.ga K "MOMENTS") [.str "given", .str "laid", .str "left", .str "opened", .str "taken", .str "gone", .str "late", .str "power"], My.tupAt K (He.dflAt ("Book", some "__init__") 0 K) [], My.tupAt K (He.dflAt ("Book", some "__init__") 1 K) [], My.tupAt K (He.dflAt ("Book", some "__init__") 2 K) [], My.tupAt K (He.dflAt ("Book", some "__init__") 3 K) [], My.tupAt K (He.dflAt ("Book", some "__init__") 4 K) [], My.tupAt K (He.dflAt ("Book", some "__init__") 5 K) [], My.tupAt K (He.dflAt ("Book", some "__init__") 6 K) [], My.tupAt K (He.dflAt ("Book", some "__init__") 7 K) []]
def ex (K : PySem.W.Frag) : Bool := (exl K).all id
structure Txt (K : PySem.W.Frag) (mg : Str → Option Value) : Prop where
  ex : ∃ h : Heap, K.In h ∧ h.Ns mainGlobals mg ∧ He.SaysD fa fn K ∧ ex K = true
section
variable {K : PySem.W.Frag} {mg : Str → Option Value}
theorem Txt.g_wall (T : Txt K mg) : mg "_wall" = some (.ref (He.ga K "_wall")) := by
  obtain ⟨h, X, G, c, _⟩ := T.ex
  exact He.glo_ok X G (c.fact 0 rfl)
theorem Txt.g_do_deed (T : Txt K mg) : mg "do_deed" = some (.ref (He.ga K "do_deed")) := by
  obtain ⟨h, X, G, c, _⟩ := T.ex
  exact He.glo_ok X G (c.fact 1 rfl)
theorem Txt.g_is_integer_within (T : Txt K mg) : mg "is_integer_within" = some (.ref (He.ga K "is_integer_within")) := by
  obtain ⟨h, X, G, c, _⟩ := T.ex
  exact He.glo_ok X G (c.fact 2 rfl)
theorem Txt.g_is_truth (T : Txt K mg) : mg "is_truth" = some (.ref (He.ga K "is_truth")) := by
  obtain ⟨h, X, G, c, _⟩ := T.ex
  exact He.glo_ok X G (c.fact 3 rfl)
theorem Txt.g_is_word (T : Txt K mg) : mg "is_word" = some (.ref (He.ga K "is_word")) := by
  obtain ⟨h, X, G, c, _⟩ := T.ex
  exact He.glo_ok X G (c.fact 4 rfl)
theorem Txt.g_are_truths (T : Txt K mg) : mg "are_truths" = some (.ref (He.ga K "are_truths")) := by
  obtain ⟨h, X, G, c, _⟩ := T.ex
  exact He.glo_ok X G (c.fact 5 rfl)
theorem Txt.g_is_deed (T : Txt K mg) : mg "is_deed" = some (.ref (He.ga K "is_deed")) := by
  obtain ⟨h, X, G, c, _⟩ := T.ex
  exact He.glo_ok X G (c.fact 6 rfl)
theorem Txt.g_check_are_deeds (T : Txt K mg) : mg "check_are_deeds" = some (.ref (He.ga K "check_are_deeds")) := by
  obtain ⟨h, X, G, c, _⟩ := T.ex
  exact He.glo_ok X G (c.fact 7 rfl)
theorem Txt.g_check_playable (T : Txt K mg) : mg "check_playable" = some (.ref (He.ga K "check_playable")) := by
  obtain ⟨h, X, G, c, _⟩ := T.ex
  exact He.glo_ok X G (c.fact 8 rfl)
theorem Txt.g_played (T : Txt K mg) : mg "played" = some (.ref (He.ga K "played")) := by
  obtain ⟨h, X, G, c, _⟩ := T.ex
  exact He.glo_ok X G (c.fact 9 rfl)
theorem Txt.g_faults (T : Txt K mg) : mg "faults" = some (.ref (He.ga K "faults")) := by
  obtain ⟨h, X, G, c, _⟩ := T.ex
  exact He.glo_ok X G (c.fact 10 rfl)
theorem Txt.g_is_rule (T : Txt K mg) : mg "is_rule" = some (.ref (He.ga K "is_rule")) := by
  obtain ⟨h, X, G, c, _⟩ := T.ex
  exact He.glo_ok X G (c.fact 11 rfl)
theorem Txt.g_law_spring (T : Txt K mg) : mg "_law_spring" = some (.ref (He.ga K "_law_spring")) := by
  obtain ⟨h, X, G, c, _⟩ := T.ex
  exact He.glo_ok X G (c.fact 12 rfl)
theorem Txt.g_law_drop (T : Txt K mg) : mg "_law_drop" = some (.ref (He.ga K "_law_drop")) := by
  obtain ⟨h, X, G, c, _⟩ := T.ex
  exact He.glo_ok X G (c.fact 13 rfl)
theorem Txt.g_law_made (T : Txt K mg) : mg "_law_made" = some (.ref (He.ga K "_law_made")) := by
  obtain ⟨h, X, G, c, _⟩ := T.ex
  exact He.glo_ok X G (c.fact 14 rfl)
theorem Txt.g_law_is_whole (T : Txt K mg) : mg "_law_is_whole" = some (.ref (He.ga K "_law_is_whole")) := by
  obtain ⟨h, X, G, c, _⟩ := T.ex
  exact He.glo_ok X G (c.fact 15 rfl)
theorem Txt.g_law_wrong (T : Txt K mg) : mg "_law_wrong" = some (.ref (He.ga K "_law_wrong")) := by
  obtain ⟨h, X, G, c, _⟩ := T.ex
  exact He.glo_ok X G (c.fact 16 rfl)
theorem Txt.g_law_each (T : Txt K mg) : mg "_law_each" = some (.ref (He.ga K "_law_each")) := by
  obtain ⟨h, X, G, c, _⟩ := T.ex
  exact He.glo_ok X G (c.fact 17 rfl)
theorem Txt.g_law_laid (T : Txt K mg) : mg "_law_laid" = some (.ref (He.ga K "_law_laid")) := by
  obtain ⟨h, X, G, c, _⟩ := T.ex
  exact He.glo_ok X G (c.fact 18 rfl)
theorem Txt.g_law_opened (T : Txt K mg) : mg "_law_opened" = some (.ref (He.ga K "_law_opened")) := by
  obtain ⟨h, X, G, c, _⟩ := T.ex
  exact He.glo_ok X G (c.fact 19 rfl)
theorem Txt.g_law_refused (T : Txt K mg) : mg "_law_refused" = some (.ref (He.ga K "_law_refused")) := by
  obtain ⟨h, X, G, c, _⟩ := T.ex
  exact He.glo_ok X G (c.fact 20 rfl)
theorem Txt.g_law_right (T : Txt K mg) : mg "_law_right" = some (.ref (He.ga K "_law_right")) := by
  obtain ⟨h, X, G, c, _⟩ := T.ex
  exact He.glo_ok X G (c.fact 21 rfl)
theorem Txt.g_law (T : Txt K mg) : mg "law" = some (.ref (He.ga K "law")) := by
  obtain ⟨h, X, G, c, _⟩ := T.ex
  exact He.glo_ok X G (c.fact 22 rfl)
theorem Txt.g_Told (T : Txt K mg) : mg "Told" = some (.ref (He.ga K "Told")) := by
  obtain ⟨h, X, G, c, _⟩ := T.ex
  exact He.glo_ok X G (c.fact 23 rfl)
theorem Txt.g_Box (T : Txt K mg) : mg "Box" = some (.ref (He.ga K "Box")) := by
  obtain ⟨h, X, G, c, _⟩ := T.ex
  exact He.glo_ok X G (c.fact 24 rfl)
theorem Txt.g_Book (T : Txt K mg) : mg "Book" = some (.ref (He.ga K "Book")) := by
  obtain ⟨h, X, G, c, _⟩ := T.ex
  exact He.glo_ok X G (c.fact 25 rfl)
theorem Txt.g_WallError (T : Txt K mg) : mg "WallError" = some (.ref (He.ga K "WallError")) := by
  obtain ⟨h, X, G, c, _⟩ := T.ex
  exact He.glo_ok X G (c.fact 26 rfl)
theorem Txt.g_NoDays (T : Txt K mg) : mg "NoDays" = some (.ref (He.ga K "NoDays")) := by
  obtain ⟨h, X, G, c, _⟩ := T.ex
  exact He.glo_ok X G (c.fact 27 rfl)
theorem Txt.g_NoRule (T : Txt K mg) : mg "NoRule" = some (.ref (He.ga K "NoRule")) := by
  obtain ⟨h, X, G, c, _⟩ := T.ex
  exact He.glo_ok X G (c.fact 28 rfl)
theorem Txt.g_NoMoment (T : Txt K mg) : mg "NoMoment" = some (.ref (He.ga K "NoMoment")) := by
  obtain ⟨h, X, G, c, _⟩ := T.ex
  exact He.glo_ok X G (c.fact 29 rfl)
theorem Txt.g_NoDeed (T : Txt K mg) : mg "NoDeed" = some (.ref (He.ga K "NoDeed")) := by
  obtain ⟨h, X, G, c, _⟩ := T.ex
  exact He.glo_ok X G (c.fact 30 rfl)
theorem Txt.g_NoParcel (T : Txt K mg) : mg "NoParcel" = some (.ref (He.ga K "NoParcel")) := by
  obtain ⟨h, X, G, c, _⟩ := T.ex
  exact He.glo_ok X G (c.fact 31 rfl)
theorem Txt.g_MOST_PARCEL (T : Txt K mg) : ∃ t, mg "MOST_PARCEL" = some (.int 1000000000 t) := by
  obtain ⟨h, X, G, c, _⟩ := T.ex
  exact He.int_ok X G (c.fact 32 rfl)
theorem Txt.g_SINGLE_WORDS (T : Txt K mg) : mg "SINGLE_WORDS" = some (.ref (He.ga K "SINGLE_WORDS")) := by
  obtain ⟨h, X, G, c, _⟩ := T.ex
  exact He.glo_ok X G (c.fact 33 rfl)
theorem Txt.g_ACTIONS (T : Txt K mg) : mg "ACTIONS" = some (.ref (He.ga K "ACTIONS")) := by
  obtain ⟨h, X, G, c, _⟩ := T.ex
  exact He.glo_ok X G (c.fact 34 rfl)
theorem Txt.g_MOMENTS (T : Txt K mg) : mg "MOMENTS" = some (.ref (He.ga K "MOMENTS")) := by
  obtain ⟨h, X, G, c, _⟩ := T.ex
  exact He.glo_ok X G (c.fact 35 rfl)
theorem Txt.g_MOST_ACTIONS (T : Txt K mg) : ∃ t, mg "MOST_ACTIONS" = some (.int 6 t) := by
  obtain ⟨h, X, G, c, _⟩ := T.ex
  exact He.int_ok X G (c.fact 36 rfl)
theorem Txt.g_MOST_DAYS (T : Txt K mg) : ∃ t, mg "MOST_DAYS" = some (.int 30 t) := by
  obtain ⟨h, X, G, c, _⟩ := T.ex
  exact He.int_ok X G (c.fact 37 rfl)
theorem Txt.len (T : Txt K mg) : mg "len" = none := by
  obtain ⟨h, X, G, c, _⟩ := T.ex
  exact He.free_ok X G (c.fact 38 rfl)
theorem Txt.abs (T : Txt K mg) : mg "abs" = none := by
  obtain ⟨h, X, G, c, _⟩ := T.ex
  exact He.free_ok X G (c.fact 39 rfl)
theorem Txt.max (T : Txt K mg) : mg "max" = none := by
  obtain ⟨h, X, G, c, _⟩ := T.ex
  exact He.free_ok X G (c.fact 40 rfl)
theorem Txt.min (T : Txt K mg) : mg "min" = none := by
  obtain ⟨h, X, G, c, _⟩ := T.ex
  exact He.free_ok X G (c.fact 41 rfl)
theorem Txt.isinstance (T : Txt K mg) : mg "isinstance" = none := by
  obtain ⟨h, X, G, c, _⟩ := T.ex
  exact He.free_ok X G (c.fact 42 rfl)
theorem Txt.all (T : Txt K mg) : mg "all" = none := by
  obtain ⟨h, X, G, c, _⟩ := T.ex
  exact He.free_ok X G (c.fact 43 rfl)
theorem Txt.any (T : Txt K mg) : mg "any" = none := by
  obtain ⟨h, X, G, c, _⟩ := T.ex
  exact He.free_ok X G (c.fact 44 rfl)
theorem Txt.zip (T : Txt K mg) : mg "zip" = none := by
  obtain ⟨h, X, G, c, _⟩ := T.ex
  exact He.free_ok X G (c.fact 45 rfl)
theorem Txt.enumerate (T : Txt K mg) : mg "enumerate" = none := by
  obtain ⟨h, X, G, c, _⟩ := T.ex
  exact He.free_ok X G (c.fact 46 rfl)
theorem Txt.super (T : Txt K mg) : mg "super" = none := by
  obtain ⟨h, X, G, c, _⟩ := T.ex
  exact He.free_ok X G (c.fact 47 rfl)
theorem Txt.ValueError (T : Txt K mg) : mg "ValueError" = none := by
  obtain ⟨h, X, G, c, _⟩ := T.ex
  exact He.free_ok X G (c.fact 48 rfl)
theorem Txt.int (T : Txt K mg) : mg "int" = none := by
  obtain ⟨h, X, G, c, _⟩ := T.ex
  exact He.free_ok X G (c.fact 49 rfl)
theorem Txt.str (T : Txt K mg) : mg "str" = none := by
  obtain ⟨h, X, G, c, _⟩ := T.ex
  exact He.free_ok X G (c.fact 50 rfl)
theorem Txt.bool (T : Txt K mg) : mg "bool" = none := by
  obtain ⟨h, X, G, c, _⟩ := T.ex
  exact He.free_ok X G (c.fact 51 rfl)
theorem Txt.list (T : Txt K mg) : mg "list" = none := by
  obtain ⟨h, X, G, c, _⟩ := T.ex
  exact He.free_ok X G (c.fact 52 rfl)
theorem Txt.tuple (T : Txt K mg) : mg "tuple" = none := by
  obtain ⟨h, X, G, c, _⟩ := T.ex
  exact He.free_ok X G (c.fact 53 rfl)
theorem Txt.range (T : Txt K mg) : mg "range" = none := by
  obtain ⟨h, X, G, c, _⟩ := T.ex
  exact He.free_ok X G (c.fact 54 rfl)
theorem Txt.cl_Told (T : Txt K mg) : Cls K (He.ga K "Told") := by
  obtain ⟨h, X, G, c, _⟩ := T.ex
  exact He.cls_ok (c.fact 55 rfl)
theorem Txt.no_Told_letters (T : Txt K mg) : NoAttr K (He.ga K "Told") "letters" := by
  obtain ⟨h, X, G, c, _⟩ := T.ex
  exact He.noat_ok (c.fact 56 rfl)
theorem Txt.no_Told_opened (T : Txt K mg) : NoAttr K (He.ga K "Told") "opened" := by
  obtain ⟨h, X, G, c, _⟩ := T.ex
  exact He.noat_ok (c.fact 57 rfl)
theorem Txt.no_Told_got (T : Txt K mg) : NoAttr K (He.ga K "Told") "got" := by
  obtain ⟨h, X, G, c, _⟩ := T.ex
  exact He.noat_ok (c.fact 58 rfl)
theorem Txt.no_Told_lays (T : Txt K mg) : NoAttr K (He.ga K "Told") "lays" := by
  obtain ⟨h, X, G, c, _⟩ := T.ex
  exact He.noat_ok (c.fact 59 rfl)
theorem Txt.no_Told_wrongs (T : Txt K mg) : NoAttr K (He.ga K "Told") "wrongs" := by
  obtain ⟨h, X, G, c, _⟩ := T.ex
  exact He.noat_ok (c.fact 60 rfl)
theorem Txt.no_Told_moments (T : Txt K mg) : NoAttr K (He.ga K "Told") "moments" := by
  obtain ⟨h, X, G, c, _⟩ := T.ex
  exact He.noat_ok (c.fact 61 rfl)
theorem Txt.m_Told_report (T : Txt K mg) : Meth K (He.ga K "Told") "report" (He.ma K (He.ga K "Told") "report") := by
  obtain ⟨h, X, G, c, _⟩ := T.ex
  exact He.meth_ok (c.fact 62 rfl)
theorem Txt.mk_Told (T : Txt K mg) : Mk K (He.ga K "Told") (He.ma K (He.ga K "Told") "__init__") := by
  obtain ⟨h, X, G, c, _⟩ := T.ex
  exact He.mkr_ok (c.fact 63 rfl)
theorem Txt.cl_Box (T : Txt K mg) : Cls K (He.ga K "Box") := by
  obtain ⟨h, X, G, c, _⟩ := T.ex
  exact He.cls_ok (c.fact 64 rfl)
theorem Txt.no_Box_ajar (T : Txt K mg) : NoAttr K (He.ga K "Box") "ajar" := by
  obtain ⟨h, X, G, c, _⟩ := T.ex
  exact He.noat_ok (c.fact 65 rfl)
theorem Txt.no_Box_inside (T : Txt K mg) : NoAttr K (He.ga K "Box") "inside" := by
  obtain ⟨h, X, G, c, _⟩ := T.ex
  exact He.noat_ok (c.fact 66 rfl)
theorem Txt.no_Box_taken_for (T : Txt K mg) : NoAttr K (He.ga K "Box") "taken_for" := by
  obtain ⟨h, X, G, c, _⟩ := T.ex
  exact He.noat_ok (c.fact 67 rfl)
theorem Txt.no_Box_valid (T : Txt K mg) : NoAttr K (He.ga K "Box") "valid" := by
  obtain ⟨h, X, G, c, _⟩ := T.ex
  exact He.noat_ok (c.fact 68 rfl)
theorem Txt.no_Box_age (T : Txt K mg) : NoAttr K (He.ga K "Box") "age" := by
  obtain ⟨h, X, G, c, _⟩ := T.ex
  exact He.noat_ok (c.fact 69 rfl)
theorem Txt.no_Box_last (T : Txt K mg) : NoAttr K (He.ga K "Box") "last" := by
  obtain ⟨h, X, G, c, _⟩ := T.ex
  exact He.noat_ok (c.fact 70 rfl)
theorem Txt.no_Box_sent (T : Txt K mg) : NoAttr K (He.ga K "Box") "sent" := by
  obtain ⟨h, X, G, c, _⟩ := T.ex
  exact He.noat_ok (c.fact 71 rfl)
theorem Txt.no_Box_served (T : Txt K mg) : NoAttr K (He.ga K "Box") "served" := by
  obtain ⟨h, X, G, c, _⟩ := T.ex
  exact He.noat_ok (c.fact 72 rfl)
theorem Txt.m_Box_copied (T : Txt K mg) : Meth K (He.ga K "Box") "copied" (He.ma K (He.ga K "Box") "copied") := by
  obtain ⟨h, X, G, c, _⟩ := T.ex
  exact He.meth_ok (c.fact 73 rfl)
theorem Txt.m_Box_stands (T : Txt K mg) : Meth K (He.ga K "Box") "stands" (He.ma K (He.ga K "Box") "stands") := by
  obtain ⟨h, X, G, c, _⟩ := T.ex
  exact He.meth_ok (c.fact 74 rfl)
theorem Txt.m_Box_bring (T : Txt K mg) : Meth K (He.ga K "Box") "bring" (He.ma K (He.ga K "Box") "bring") := by
  obtain ⟨h, X, G, c, _⟩ := T.ex
  exact He.meth_ok (c.fact 75 rfl)
theorem Txt.m_Box_code (T : Txt K mg) : Meth K (He.ga K "Box") "code" (He.ma K (He.ga K "Box") "code") := by
  obtain ⟨h, X, G, c, _⟩ := T.ex
  exact He.meth_ok (c.fact 76 rfl)
theorem Txt.m_Box_pass_by (T : Txt K mg) : Meth K (He.ga K "Box") "pass_by" (He.ma K (He.ga K "Box") "pass_by") := by
  obtain ⟨h, X, G, c, _⟩ := T.ex
  exact He.meth_ok (c.fact 77 rfl)
theorem Txt.m_Box_day (T : Txt K mg) : Meth K (He.ga K "Box") "day" (He.ma K (He.ga K "Box") "day") := by
  obtain ⟨h, X, G, c, _⟩ := T.ex
  exact He.meth_ok (c.fact 78 rfl)
theorem Txt.m_Box_power (T : Txt K mg) : Meth K (He.ga K "Box") "power" (He.ma K (He.ga K "Box") "power") := by
  obtain ⟨h, X, G, c, _⟩ := T.ex
  exact He.meth_ok (c.fact 79 rfl)
theorem Txt.m_Box_let_take (T : Txt K mg) : Meth K (He.ga K "Box") "_let_take" (He.ma K (He.ga K "Box") "_let_take") := by
  obtain ⟨h, X, G, c, _⟩ := T.ex
  exact He.meth_ok (c.fact 80 rfl)
theorem Txt.m_Box_go_away (T : Txt K mg) : Meth K (He.ga K "Box") "_go_away" (He.ma K (He.ga K "Box") "_go_away") := by
  obtain ⟨h, X, G, c, _⟩ := T.ex
  exact He.meth_ok (c.fact 81 rfl)
theorem Txt.m_Box_carry_out (T : Txt K mg) : Meth K (He.ga K "Box") "_carry_out" (He.ma K (He.ga K "Box") "_carry_out") := by
  obtain ⟨h, X, G, c, _⟩ := T.ex
  exact He.meth_ok (c.fact 82 rfl)
theorem Txt.m_Box_act (T : Txt K mg) : Meth K (He.ga K "Box") "_act" (He.ma K (He.ga K "Box") "_act") := by
  obtain ⟨h, X, G, c, _⟩ := T.ex
  exact He.meth_ok (c.fact 83 rfl)
theorem Txt.m_Box_send_code (T : Txt K mg) : Meth K (He.ga K "Box") "_send_code" (He.ma K (He.ga K "Box") "_send_code") := by
  obtain ⟨h, X, G, c, _⟩ := T.ex
  exact He.meth_ok (c.fact 84 rfl)
theorem Txt.mk_Box (T : Txt K mg) : Mk K (He.ga K "Box") (He.ma K (He.ga K "Box") "__init__") := by
  obtain ⟨h, X, G, c, _⟩ := T.ex
  exact He.mkr_ok (c.fact 85 rfl)
theorem Txt.cl_Book (T : Txt K mg) : Cls K (He.ga K "Book") := by
  obtain ⟨h, X, G, c, _⟩ := T.ex
  exact He.cls_ok (c.fact 86 rfl)
theorem Txt.no_Book__days (T : Txt K mg) : NoAttr K (He.ga K "Book") "_days" := by
  obtain ⟨h, X, G, c, _⟩ := T.ex
  exact He.noat_ok (c.fact 87 rfl)
theorem Txt.no_Book__rules (T : Txt K mg) : NoAttr K (He.ga K "Book") "_rules" := by
  obtain ⟨h, X, G, c, _⟩ := T.ex
  exact He.noat_ok (c.fact 88 rfl)
theorem Txt.m_Book_eq (T : Txt K mg) : Meth K (He.ga K "Book") "__eq__" (He.ma K (He.ga K "Book") "__eq__") := by
  obtain ⟨h, X, G, c, _⟩ := T.ex
  exact He.meth_ok (c.fact 89 rfl)
theorem Txt.m_Book_days (T : Txt K mg) : Meth K (He.ga K "Book") "days" (He.ma K (He.ga K "Book") "days") := by
  obtain ⟨h, X, G, c, _⟩ := T.ex
  exact He.meth_ok (c.fact 90 rfl)
theorem Txt.m_Book_rule (T : Txt K mg) : Meth K (He.ga K "Book") "rule" (He.ma K (He.ga K "Book") "rule") := by
  obtain ⟨h, X, G, c, _⟩ := T.ex
  exact He.meth_ok (c.fact 91 rfl)
theorem Txt.m_Book_rules (T : Txt K mg) : Meth K (He.ga K "Book") "rules" (He.ma K (He.ga K "Book") "rules") := by
  obtain ⟨h, X, G, c, _⟩ := T.ex
  exact He.meth_ok (c.fact 92 rfl)
theorem Txt.m_Book_with_rule (T : Txt K mg) : Meth K (He.ga K "Book") "with_rule" (He.ma K (He.ga K "Book") "with_rule") := by
  obtain ⟨h, X, G, c, _⟩ := T.ex
  exact He.meth_ok (c.fact 93 rfl)
theorem Txt.m_Book_with_days (T : Txt K mg) : Meth K (He.ga K "Book") "with_days" (He.ma K (He.ga K "Book") "with_days") := by
  obtain ⟨h, X, G, c, _⟩ := T.ex
  exact He.meth_ok (c.fact 94 rfl)
theorem Txt.m_Book_taking (T : Txt K mg) : Meth K (He.ga K "Book") "taking" (He.ma K (He.ga K "Book") "taking") := by
  obtain ⟨h, X, G, c, _⟩ := T.ex
  exact He.meth_ok (c.fact 95 rfl)
theorem Txt.mk_Book (T : Txt K mg) : Mk K (He.ga K "Book") (He.ma K (He.ga K "Book") "__init__") := by
  obtain ⟨h, X, G, c, _⟩ := T.ex
  exact He.mkr_ok (c.fact 96 rfl)
theorem Txt.tup_SINGLE_WORDS (T : Txt K mg) : ∀ H, SqT K H (He.ga K "SINGLE_WORDS") [.str "pass", .str "day", .str "power"] := by
  obtain ⟨h, X, G, c, e⟩ := T.ex
  exact fun H => My.tupAt_ok (My.all_ix e 0 rfl) H
theorem Txt.ty_SINGLE_WORDS (T : Txt K mg) : ∀ H, tyV K "tuple" (.ref (He.ga K "SINGLE_WORDS")) H := by
  obtain ⟨h, X, G, c, e⟩ := T.ex
  exact fun H => My.tupAt_ty (My.all_ix e 0 rfl) H
theorem Txt.tup_ACTIONS (T : Txt K mg) : ∀ H, SqT K H (He.ga K "ACTIONS") [.str "free", .str "full", .str "off", .str "code", .str "void", .str "look", .str "lock"] := by
  obtain ⟨h, X, G, c, e⟩ := T.ex
  exact fun H => My.tupAt_ok (My.all_ix e 1 rfl) H
theorem Txt.ty_ACTIONS (T : Txt K mg) : ∀ H, tyV K "tuple" (.ref (He.ga K "ACTIONS")) H := by
  obtain ⟨h, X, G, c, e⟩ := T.ex
  exact fun H => My.tupAt_ty (My.all_ix e 1 rfl) H
theorem Txt.tup_MOMENTS (T : Txt K mg) : ∀ H, SqT K H (He.ga K "MOMENTS") [.str "given", .str "laid", .str "left", .str "opened", .str "taken", .str "gone", .str "late", .str "power"] := by
  obtain ⟨h, X, G, c, e⟩ := T.ex
  exact fun H => My.tupAt_ok (My.all_ix e 2 rfl) H
theorem Txt.ty_MOMENTS (T : Txt K mg) : ∀ H, tyV K "tuple" (.ref (He.ga K "MOMENTS")) H := by
  obtain ⟨h, X, G, c, e⟩ := T.ex
  exact fun H => My.tupAt_ty (My.all_ix e 2 rfl) H
theorem Txt.dfl_Book_init_0 (T : Txt K mg) : ∀ H, SqT K H (He.dflAt ("Book", some "__init__") 0 K) [] := by
  obtain ⟨h, X, G, c, e⟩ := T.ex
  exact fun H => My.tupAt_ok (My.all_ix e 3 rfl) H
theorem Txt.dfl_Book_init_1 (T : Txt K mg) : ∀ H, SqT K H (He.dflAt ("Book", some "__init__") 1 K) [] := by
  obtain ⟨h, X, G, c, e⟩ := T.ex
  exact fun H => My.tupAt_ok (My.all_ix e 4 rfl) H
theorem Txt.dfl_Book_init_2 (T : Txt K mg) : ∀ H, SqT K H (He.dflAt ("Book", some "__init__") 2 K) [] := by
  obtain ⟨h, X, G, c, e⟩ := T.ex
  exact fun H => My.tupAt_ok (My.all_ix e 5 rfl) H
theorem Txt.dfl_Book_init_3 (T : Txt K mg) : ∀ H, SqT K H (He.dflAt ("Book", some "__init__") 3 K) [] := by
  obtain ⟨h, X, G, c, e⟩ := T.ex
  exact fun H => My.tupAt_ok (My.all_ix e 6 rfl) H
theorem Txt.dfl_Book_init_4 (T : Txt K mg) : ∀ H, SqT K H (He.dflAt ("Book", some "__init__") 4 K) [] := by
  obtain ⟨h, X, G, c, e⟩ := T.ex
  exact fun H => My.tupAt_ok (My.all_ix e 7 rfl) H
theorem Txt.dfl_Book_init_5 (T : Txt K mg) : ∀ H, SqT K H (He.dflAt ("Book", some "__init__") 5 K) [] := by
  obtain ⟨h, X, G, c, e⟩ := T.ex
  exact fun H => My.tupAt_ok (My.all_ix e 8 rfl) H
theorem Txt.dfl_Book_init_6 (T : Txt K mg) : ∀ H, SqT K H (He.dflAt ("Book", some "__init__") 6 K) [] := by
  obtain ⟨h, X, G, c, e⟩ := T.ex
  exact fun H => My.tupAt_ok (My.all_ix e 9 rfl) H
theorem Txt.dfl_Book_init_7 (T : Txt K mg) : ∀ H, SqT K H (He.dflAt ("Book", some "__init__") 7 K) [] := by
  obtain ⟨h, X, G, c, e⟩ := T.ex
  exact fun H => My.tupAt_ok (My.all_ix e 10 rfl) H
theorem Txt.f_wall (T : Txt K mg) : ∃ fd, FunD K d_wall.name d_wall.qual d_wall.params d_wall.body d_wall.scope (d_wall.dvs K) (d_wall.kws K) (He.fAd K d_wall.at_) fd := by
  obtain ⟨h, X, G, c, e⟩ := T.ex
  exact c.def_ 0 rfl
theorem Txt.f_Told_init (T : Txt K mg) : ∃ fd, FunD K d_Told_init.name d_Told_init.qual d_Told_init.params d_Told_init.body d_Told_init.scope (d_Told_init.dvs K) (d_Told_init.kws K) (He.fAd K d_Told_init.at_) fd := by
  obtain ⟨h, X, G, c, e⟩ := T.ex
  exact c.def_ 1 rfl
theorem Txt.f_Told_report (T : Txt K mg) : ∃ fd, FunD K d_Told_report.name d_Told_report.qual d_Told_report.params d_Told_report.body d_Told_report.scope (d_Told_report.dvs K) (d_Told_report.kws K) (He.fAd K d_Told_report.at_) fd := by
  obtain ⟨h, X, G, c, e⟩ := T.ex
  exact c.def_ 2 rfl
theorem Txt.f_Box_init (T : Txt K mg) : ∃ fd, FunD K d_Box_init.name d_Box_init.qual d_Box_init.params d_Box_init.body d_Box_init.scope (d_Box_init.dvs K) (d_Box_init.kws K) (He.fAd K d_Box_init.at_) fd := by
  obtain ⟨h, X, G, c, e⟩ := T.ex
  exact c.def_ 3 rfl
theorem Txt.f_Box_copied (T : Txt K mg) : ∃ fd, FunD K d_Box_copied.name d_Box_copied.qual d_Box_copied.params d_Box_copied.body d_Box_copied.scope (d_Box_copied.dvs K) (d_Box_copied.kws K) (He.fAd K d_Box_copied.at_) fd := by
  obtain ⟨h, X, G, c, e⟩ := T.ex
  exact c.def_ 4 rfl
theorem Txt.f_Box_stands (T : Txt K mg) : ∃ fd, FunD K d_Box_stands.name d_Box_stands.qual d_Box_stands.params d_Box_stands.body d_Box_stands.scope (d_Box_stands.dvs K) (d_Box_stands.kws K) (He.fAd K d_Box_stands.at_) fd := by
  obtain ⟨h, X, G, c, e⟩ := T.ex
  exact c.def_ 5 rfl
theorem Txt.f_Box_bring (T : Txt K mg) : ∃ fd, FunD K d_Box_bring.name d_Box_bring.qual d_Box_bring.params d_Box_bring.body d_Box_bring.scope (d_Box_bring.dvs K) (d_Box_bring.kws K) (He.fAd K d_Box_bring.at_) fd := by
  obtain ⟨h, X, G, c, e⟩ := T.ex
  exact c.def_ 6 rfl
theorem Txt.f_Box_code (T : Txt K mg) : ∃ fd, FunD K d_Box_code.name d_Box_code.qual d_Box_code.params d_Box_code.body d_Box_code.scope (d_Box_code.dvs K) (d_Box_code.kws K) (He.fAd K d_Box_code.at_) fd := by
  obtain ⟨h, X, G, c, e⟩ := T.ex
  exact c.def_ 7 rfl
theorem Txt.f_Box_pass_by (T : Txt K mg) : ∃ fd, FunD K d_Box_pass_by.name d_Box_pass_by.qual d_Box_pass_by.params d_Box_pass_by.body d_Box_pass_by.scope (d_Box_pass_by.dvs K) (d_Box_pass_by.kws K) (He.fAd K d_Box_pass_by.at_) fd := by
  obtain ⟨h, X, G, c, e⟩ := T.ex
  exact c.def_ 8 rfl
theorem Txt.f_Box_day (T : Txt K mg) : ∃ fd, FunD K d_Box_day.name d_Box_day.qual d_Box_day.params d_Box_day.body d_Box_day.scope (d_Box_day.dvs K) (d_Box_day.kws K) (He.fAd K d_Box_day.at_) fd := by
  obtain ⟨h, X, G, c, e⟩ := T.ex
  exact c.def_ 9 rfl
theorem Txt.f_Box_power (T : Txt K mg) : ∃ fd, FunD K d_Box_power.name d_Box_power.qual d_Box_power.params d_Box_power.body d_Box_power.scope (d_Box_power.dvs K) (d_Box_power.kws K) (He.fAd K d_Box_power.at_) fd := by
  obtain ⟨h, X, G, c, e⟩ := T.ex
  exact c.def_ 10 rfl
theorem Txt.f_Box_let_take (T : Txt K mg) : ∃ fd, FunD K d_Box_let_take.name d_Box_let_take.qual d_Box_let_take.params d_Box_let_take.body d_Box_let_take.scope (d_Box_let_take.dvs K) (d_Box_let_take.kws K) (He.fAd K d_Box_let_take.at_) fd := by
  obtain ⟨h, X, G, c, e⟩ := T.ex
  exact c.def_ 11 rfl
theorem Txt.f_Box_go_away (T : Txt K mg) : ∃ fd, FunD K d_Box_go_away.name d_Box_go_away.qual d_Box_go_away.params d_Box_go_away.body d_Box_go_away.scope (d_Box_go_away.dvs K) (d_Box_go_away.kws K) (He.fAd K d_Box_go_away.at_) fd := by
  obtain ⟨h, X, G, c, e⟩ := T.ex
  exact c.def_ 12 rfl
theorem Txt.f_Box_carry_out (T : Txt K mg) : ∃ fd, FunD K d_Box_carry_out.name d_Box_carry_out.qual d_Box_carry_out.params d_Box_carry_out.body d_Box_carry_out.scope (d_Box_carry_out.dvs K) (d_Box_carry_out.kws K) (He.fAd K d_Box_carry_out.at_) fd := by
  obtain ⟨h, X, G, c, e⟩ := T.ex
  exact c.def_ 13 rfl
theorem Txt.f_Box_act (T : Txt K mg) : ∃ fd, FunD K d_Box_act.name d_Box_act.qual d_Box_act.params d_Box_act.body d_Box_act.scope (d_Box_act.dvs K) (d_Box_act.kws K) (He.fAd K d_Box_act.at_) fd := by
  obtain ⟨h, X, G, c, e⟩ := T.ex
  exact c.def_ 14 rfl
theorem Txt.f_Box_send_code (T : Txt K mg) : ∃ fd, FunD K d_Box_send_code.name d_Box_send_code.qual d_Box_send_code.params d_Box_send_code.body d_Box_send_code.scope (d_Box_send_code.dvs K) (d_Box_send_code.kws K) (He.fAd K d_Box_send_code.at_) fd := by
  obtain ⟨h, X, G, c, e⟩ := T.ex
  exact c.def_ 15 rfl
theorem Txt.f_do_deed (T : Txt K mg) : ∃ fd, FunD K d_do_deed.name d_do_deed.qual d_do_deed.params d_do_deed.body d_do_deed.scope (d_do_deed.dvs K) (d_do_deed.kws K) (He.fAd K d_do_deed.at_) fd := by
  obtain ⟨h, X, G, c, e⟩ := T.ex
  exact c.def_ 16 rfl
theorem Txt.f_is_integer_within (T : Txt K mg) : ∃ fd, FunD K d_is_integer_within.name d_is_integer_within.qual d_is_integer_within.params d_is_integer_within.body d_is_integer_within.scope (d_is_integer_within.dvs K) (d_is_integer_within.kws K) (He.fAd K d_is_integer_within.at_) fd := by
  obtain ⟨h, X, G, c, e⟩ := T.ex
  exact c.def_ 17 rfl
theorem Txt.f_is_truth (T : Txt K mg) : ∃ fd, FunD K d_is_truth.name d_is_truth.qual d_is_truth.params d_is_truth.body d_is_truth.scope (d_is_truth.dvs K) (d_is_truth.kws K) (He.fAd K d_is_truth.at_) fd := by
  obtain ⟨h, X, G, c, e⟩ := T.ex
  exact c.def_ 18 rfl
theorem Txt.f_is_word (T : Txt K mg) : ∃ fd, FunD K d_is_word.name d_is_word.qual d_is_word.params d_is_word.body d_is_word.scope (d_is_word.dvs K) (d_is_word.kws K) (He.fAd K d_is_word.at_) fd := by
  obtain ⟨h, X, G, c, e⟩ := T.ex
  exact c.def_ 19 rfl
theorem Txt.f_are_truths (T : Txt K mg) : ∃ fd, FunD K d_are_truths.name d_are_truths.qual d_are_truths.params d_are_truths.body d_are_truths.scope (d_are_truths.dvs K) (d_are_truths.kws K) (He.fAd K d_are_truths.at_) fd := by
  obtain ⟨h, X, G, c, e⟩ := T.ex
  exact c.def_ 20 rfl
theorem Txt.f_is_deed (T : Txt K mg) : ∃ fd, FunD K d_is_deed.name d_is_deed.qual d_is_deed.params d_is_deed.body d_is_deed.scope (d_is_deed.dvs K) (d_is_deed.kws K) (He.fAd K d_is_deed.at_) fd := by
  obtain ⟨h, X, G, c, e⟩ := T.ex
  exact c.def_ 21 rfl
theorem Txt.f_check_are_deeds (T : Txt K mg) : ∃ fd, FunD K d_check_are_deeds.name d_check_are_deeds.qual d_check_are_deeds.params d_check_are_deeds.body d_check_are_deeds.scope (d_check_are_deeds.dvs K) (d_check_are_deeds.kws K) (He.fAd K d_check_are_deeds.at_) fd := by
  obtain ⟨h, X, G, c, e⟩ := T.ex
  exact c.def_ 22 rfl
theorem Txt.f_check_playable (T : Txt K mg) : ∃ fd, FunD K d_check_playable.name d_check_playable.qual d_check_playable.params d_check_playable.body d_check_playable.scope (d_check_playable.dvs K) (d_check_playable.kws K) (He.fAd K d_check_playable.at_) fd := by
  obtain ⟨h, X, G, c, e⟩ := T.ex
  exact c.def_ 23 rfl
theorem Txt.f_played (T : Txt K mg) : ∃ fd, FunD K d_played.name d_played.qual d_played.params d_played.body d_played.scope (d_played.dvs K) (d_played.kws K) (He.fAd K d_played.at_) fd := by
  obtain ⟨h, X, G, c, e⟩ := T.ex
  exact c.def_ 24 rfl
theorem Txt.f_faults (T : Txt K mg) : ∃ fd, FunD K d_faults.name d_faults.qual d_faults.params d_faults.body d_faults.scope (d_faults.dvs K) (d_faults.kws K) (He.fAd K d_faults.at_) fd := by
  obtain ⟨h, X, G, c, e⟩ := T.ex
  exact c.def_ 25 rfl
theorem Txt.f_is_rule (T : Txt K mg) : ∃ fd, FunD K d_is_rule.name d_is_rule.qual d_is_rule.params d_is_rule.body d_is_rule.scope (d_is_rule.dvs K) (d_is_rule.kws K) (He.fAd K d_is_rule.at_) fd := by
  obtain ⟨h, X, G, c, e⟩ := T.ex
  exact c.def_ 26 rfl
theorem Txt.f_Book_init (T : Txt K mg) : ∃ fd, FunD K d_Book_init.name d_Book_init.qual d_Book_init.params d_Book_init.body d_Book_init.scope (d_Book_init.dvs K) (d_Book_init.kws K) (He.fAd K d_Book_init.at_) fd := by
  obtain ⟨h, X, G, c, e⟩ := T.ex
  exact c.def_ 27 rfl
theorem Txt.f_Book_eq (T : Txt K mg) : ∃ fd, FunD K d_Book_eq.name d_Book_eq.qual d_Book_eq.params d_Book_eq.body d_Book_eq.scope (d_Book_eq.dvs K) (d_Book_eq.kws K) (He.fAd K d_Book_eq.at_) fd := by
  obtain ⟨h, X, G, c, e⟩ := T.ex
  exact c.def_ 28 rfl
theorem Txt.f_Book_days (T : Txt K mg) : ∃ fd, FunD K d_Book_days.name d_Book_days.qual d_Book_days.params d_Book_days.body d_Book_days.scope (d_Book_days.dvs K) (d_Book_days.kws K) (He.fAd K d_Book_days.at_) fd := by
  obtain ⟨h, X, G, c, e⟩ := T.ex
  exact c.def_ 29 rfl
theorem Txt.f_Book_rule (T : Txt K mg) : ∃ fd, FunD K d_Book_rule.name d_Book_rule.qual d_Book_rule.params d_Book_rule.body d_Book_rule.scope (d_Book_rule.dvs K) (d_Book_rule.kws K) (He.fAd K d_Book_rule.at_) fd := by
  obtain ⟨h, X, G, c, e⟩ := T.ex
  exact c.def_ 30 rfl
theorem Txt.f_Book_rules (T : Txt K mg) : ∃ fd, FunD K d_Book_rules.name d_Book_rules.qual d_Book_rules.params d_Book_rules.body d_Book_rules.scope (d_Book_rules.dvs K) (d_Book_rules.kws K) (He.fAd K d_Book_rules.at_) fd := by
  obtain ⟨h, X, G, c, e⟩ := T.ex
  exact c.def_ 31 rfl
theorem Txt.f_Book_with_rule (T : Txt K mg) : ∃ fd, FunD K d_Book_with_rule.name d_Book_with_rule.qual d_Book_with_rule.params d_Book_with_rule.body d_Book_with_rule.scope (d_Book_with_rule.dvs K) (d_Book_with_rule.kws K) (He.fAd K d_Book_with_rule.at_) fd := by
  obtain ⟨h, X, G, c, e⟩ := T.ex
  exact c.def_ 32 rfl
theorem Txt.f_Book_with_days (T : Txt K mg) : ∃ fd, FunD K d_Book_with_days.name d_Book_with_days.qual d_Book_with_days.params d_Book_with_days.body d_Book_with_days.scope (d_Book_with_days.dvs K) (d_Book_with_days.kws K) (He.fAd K d_Book_with_days.at_) fd := by
  obtain ⟨h, X, G, c, e⟩ := T.ex
  exact c.def_ 33 rfl
theorem Txt.f_Book_taking (T : Txt K mg) : ∃ fd, FunD K d_Book_taking.name d_Book_taking.qual d_Book_taking.params d_Book_taking.body d_Book_taking.scope (d_Book_taking.dvs K) (d_Book_taking.kws K) (He.fAd K d_Book_taking.at_) fd := by
  obtain ⟨h, X, G, c, e⟩ := T.ex
  exact c.def_ 34 rfl
theorem Txt.f_law_spring (T : Txt K mg) : ∃ fd, FunD K d_law_spring.name d_law_spring.qual d_law_spring.params d_law_spring.body d_law_spring.scope (d_law_spring.dvs K) (d_law_spring.kws K) (He.fAd K d_law_spring.at_) fd := by
  obtain ⟨h, X, G, c, e⟩ := T.ex
  exact c.def_ 35 rfl
theorem Txt.f_law_drop (T : Txt K mg) : ∃ fd, FunD K d_law_drop.name d_law_drop.qual d_law_drop.params d_law_drop.body d_law_drop.scope (d_law_drop.dvs K) (d_law_drop.kws K) (He.fAd K d_law_drop.at_) fd := by
  obtain ⟨h, X, G, c, e⟩ := T.ex
  exact c.def_ 36 rfl
theorem Txt.f_law_made (T : Txt K mg) : ∃ fd, FunD K d_law_made.name d_law_made.qual d_law_made.params d_law_made.body d_law_made.scope (d_law_made.dvs K) (d_law_made.kws K) (He.fAd K d_law_made.at_) fd := by
  obtain ⟨h, X, G, c, e⟩ := T.ex
  exact c.def_ 37 rfl
theorem Txt.f_law_is_whole (T : Txt K mg) : ∃ fd, FunD K d_law_is_whole.name d_law_is_whole.qual d_law_is_whole.params d_law_is_whole.body d_law_is_whole.scope (d_law_is_whole.dvs K) (d_law_is_whole.kws K) (He.fAd K d_law_is_whole.at_) fd := by
  obtain ⟨h, X, G, c, e⟩ := T.ex
  exact c.def_ 38 rfl
theorem Txt.f_law_wrong (T : Txt K mg) : ∃ fd, FunD K d_law_wrong.name d_law_wrong.qual d_law_wrong.params d_law_wrong.body d_law_wrong.scope (d_law_wrong.dvs K) (d_law_wrong.kws K) (He.fAd K d_law_wrong.at_) fd := by
  obtain ⟨h, X, G, c, e⟩ := T.ex
  exact c.def_ 39 rfl
theorem Txt.f_law_each (T : Txt K mg) : ∃ fd, FunD K d_law_each.name d_law_each.qual d_law_each.params d_law_each.body d_law_each.scope (d_law_each.dvs K) (d_law_each.kws K) (He.fAd K d_law_each.at_) fd := by
  obtain ⟨h, X, G, c, e⟩ := T.ex
  exact c.def_ 40 rfl
theorem Txt.f_law_laid (T : Txt K mg) : ∃ fd, FunD K d_law_laid.name d_law_laid.qual d_law_laid.params d_law_laid.body d_law_laid.scope (d_law_laid.dvs K) (d_law_laid.kws K) (He.fAd K d_law_laid.at_) fd := by
  obtain ⟨h, X, G, c, e⟩ := T.ex
  exact c.def_ 41 rfl
theorem Txt.f_law_opened (T : Txt K mg) : ∃ fd, FunD K d_law_opened.name d_law_opened.qual d_law_opened.params d_law_opened.body d_law_opened.scope (d_law_opened.dvs K) (d_law_opened.kws K) (He.fAd K d_law_opened.at_) fd := by
  obtain ⟨h, X, G, c, e⟩ := T.ex
  exact c.def_ 42 rfl
theorem Txt.f_law_refused (T : Txt K mg) : ∃ fd, FunD K d_law_refused.name d_law_refused.qual d_law_refused.params d_law_refused.body d_law_refused.scope (d_law_refused.dvs K) (d_law_refused.kws K) (He.fAd K d_law_refused.at_) fd := by
  obtain ⟨h, X, G, c, e⟩ := T.ex
  exact c.def_ 43 rfl
theorem Txt.f_law_right (T : Txt K mg) : ∃ fd, FunD K d_law_right.name d_law_right.qual d_law_right.params d_law_right.body d_law_right.scope (d_law_right.dvs K) (d_law_right.kws K) (He.fAd K d_law_right.at_) fd := by
  obtain ⟨h, X, G, c, e⟩ := T.ex
  exact c.def_ 44 rfl
theorem Txt.f_law (T : Txt K mg) : ∃ fd, FunD K d_law.name d_law.qual d_law.params d_law.body d_law.scope (d_law.dvs K) (d_law.kws K) (He.fAd K d_law.at_) fd := by
  obtain ⟨h, X, G, c, e⟩ := T.ex
  exact c.def_ 45 rfl
end
end K29


namespace K29
open PySem PySem.Spec PyProof.Rows L2
abbrev R : PySem.W.OpenRow := PySem.W.OpenLaw.row PySem.Challenge.rw_lockerwall_k29_faults_one_by_one
abbrev hk : PySem.W.Hook := My.hookD2 5 fa fn ex
def ob (s : PySem.W.SharedT) : My.AlE := My.obsDG2 5 fa fn ex (HandSHeadRun.getT s)
theorem ob_eq (s : PySem.W.SharedT) : ob s = hk.obs s.abs := My.obsDG2_eq (HandSHeadRun.getT_eq s)
def loose : List PySem.Str := ((["_wall", "Told", "Box", "do_deed", "is_integer_within", "is_truth", "is_word", "WallError", "NoDays", "NoRule", "NoMoment", "NoDeed", "NoParcel", "are_truths", "is_deed", "check_are_deeds", "check_playable", "played", "faults", "is_rule", "Book", "_law_spring", "_law_drop", "_law_made", "_law_is_whole", "_law_wrong", "_law_each", "_law_laid", "_law_opened", "_law_refused"] : List PySem.Str) ++ (["_law_right", "MOST_PARCEL", "SINGLE_WORDS", "ACTIONS", "MOMENTS", "MOST_ACTIONS", "MOST_DAYS"] : List PySem.Str))
theorem run (w : World) : HandSHeadRun.RunEq R (PySem.W.view R.prog [44]) hk ob 6000 loose w := by
  intro os
  kernel_rfl
end K29

set_option maxHeartbeats 200000
namespace K29
open PySem PySem.Spec PyProof.Rows L2
section
variable {P : Program} {w : World} {K : PySem.W.Frag} {mg : Str → Option Value} {base : Heap}
/-! ### checks -/
def sp_is_integer_within (K : PySem.W.Frag) : Sp := fun vs H Q _ => ∃ n lo hi : Int, vs = [.int n, .int lo, .int hi] ∧ Q (.bl (decide (lo ≤ n) && decide (n ≤ hi))) H
set_option maxHeartbeats 2000000 in
theorem ok_is_integer_within (T : Txt K mg) {fd : FuncData} (F : FunD K d_is_integer_within.name d_is_integer_within.qual d_is_integer_within.params d_is_integer_within.body d_is_integer_within.scope (d_is_integer_within.dvs K) (d_is_integer_within.kws K) (He.fAd K d_is_integer_within.at_) fd) : FnOk P w K mg base C8.CX0 1 (He.fAd K d_is_integer_within.at_) fd ["value", "low", "high"] (sp_is_integer_within K) := by
  refine F.ok sc_is_integer_within (fun vs H Q E h => ?_) (fun cdv A outer s H vs Q E hr h => ?_)
  · obtain ⟨n, lo, hi, rfl, _⟩ := h
    rfl
  · have hu := L2.hu_of hr
    obtain ⟨n, lo, hi, rfl, q⟩ := h
    refine ⟨_, (PSs.nox ((pss_one (ps_ret (pe_and (pe_callB (My.isiK (K := K) rfl) (by rfl) T.isinstance (by decide +kernel) (pa_cons (pv 0) (pa_cons (pe_bltn (v := .ty "int") (u := .type "int") rfl T.int (by decide +kernel) rfl) pa_nil))) (pe_and (pe_not (pe_callB (My.isiK (K := K) rfl) (by rfl) T.isinstance (by decide +kernel) (pa_cons (pv 0) (pa_cons (pe_bltn (v := .ty "bool") (u := .type "bool") rfl T.bool (by decide +kernel) rfl) pa_nil)))) (pe_one (pe_chain op_le op_le (pv 1) (pv 0) (pv 2))))))))), ?_⟩
    refine ⟨_, rfl, _, _, _, _, _, rfl, .ty "int", .base (.int n), L2.kit_ty (by decide +kernel), true, rfl, ?_⟩
    refine L2.iteT ?_
    refine ⟨_, rfl, _, _, _, _, _, rfl, .ty "bool", .base (.int n), L2.kit_ty (by decide +kernel), false, rfl, true, rfl, ?_⟩
    refine L2.iteT ?_
    refine ⟨_, rfl, _, rfl, _, _, rfl, rfl, _, rfl, ?_⟩
    refine L2.ite2 (fun c => ?_) (fun c => ?_)
    · refine ⟨_, rfl, _, _, rfl, rfl, ?_⟩
      rw [c] at q
      exact q
    · have e : decide (lo ≤ n) = false := by simpa using c
      rw [e] at q
      exact q
theorem c_is_integer_within (T : Txt K mg) : C8.Cal P w K mg base 1 "is_integer_within" (sp_is_integer_within K) [] := by
  obtain ⟨fd, F⟩ := T.f_is_integer_within
  exact ⟨_, fd, _, _, ok_is_integer_within T F, T.g_is_integer_within, F.kp, F.bindsN (fun _ _ _ _ _ _ us hl => match us, hl with | [_, _, _], _ => rfl), .nil⟩
def sp_is_truth (K : PySem.W.Frag) : Sp := fun vs H Q _ => ∃ b : Bool, vs = [.bl b] ∧ Q (.bl true) H
set_option maxHeartbeats 2000000 in
theorem ok_is_truth (T : Txt K mg) {fd : FuncData} (F : FunD K d_is_truth.name d_is_truth.qual d_is_truth.params d_is_truth.body d_is_truth.scope (d_is_truth.dvs K) (d_is_truth.kws K) (He.fAd K d_is_truth.at_) fd) : FnOk P w K mg base C8.CX0 1 (He.fAd K d_is_truth.at_) fd ["value"] (sp_is_truth K) := by
  refine F.ok sc_is_truth (fun vs H Q E h => ?_) (fun cdv A outer s H vs Q E hr h => ?_)
  · obtain ⟨b, rfl, _⟩ := h
    rfl
  · have hu := L2.hu_of hr
    obtain ⟨b, rfl, q⟩ := h
    refine ⟨_, (PSs.nox ((pss_one (ps_ret (pe_or (pe_cmpR op_isBl (pv 0) pe_bl (nomark _)) (pe_one (pe_cmpR op_isBl (pv 0) pe_bl (nomark _)))))))), ?_⟩
    refine ⟨_, rfl, _, _, rfl, rfl, _, rfl, ?_⟩
    cases b with
    | true => exact L2.iteT q
    | false => exact L2.iteF ⟨_, rfl, _, _, rfl, rfl, q⟩
theorem c_is_truth (T : Txt K mg) : C8.Cal P w K mg base 1 "is_truth" (sp_is_truth K) [] := by
  obtain ⟨fd, F⟩ := T.f_is_truth
  exact ⟨_, fd, _, _, ok_is_truth T F, T.g_is_truth, F.kp, F.bindsN (fun _ _ _ _ _ _ us hl => match us, hl with | [_], _ => rfl), .nil⟩
def sp_is_word (K : PySem.W.Frag) : Sp := fun vs H Q _ => ∃ (x : Str) (a : Addr) (ws : List Str), vs = [.str x, .ref a] ∧ SqT K H a (ws.map V.str) ∧ Q (.bl (decide (x ∈ ws))) H
set_option maxHeartbeats 2000000 in
theorem ok_is_word (T : Txt K mg) {fd : FuncData} (F : FunD K d_is_word.name d_is_word.qual d_is_word.params d_is_word.body d_is_word.scope (d_is_word.dvs K) (d_is_word.kws K) (He.fAd K d_is_word.at_) fd) : FnOk P w K mg base C8.CX0 1 (He.fAd K d_is_word.at_) fd ["value", "words"] (sp_is_word K) := by
  refine F.ok sc_is_word (fun vs H Q E h => ?_) (fun cdv A outer s H vs Q E hr h => ?_)
  · obtain ⟨x, a, ws, rfl, _⟩ := h
    rfl
  · have hu := L2.hu_of hr
    obtain ⟨x, a, ws, rfl, hS, q⟩ := h
    refine ⟨_, (PSs.nox ((pss_one (ps_ret (pe_and (pe_callB (My.isiK (K := K) rfl) (by rfl) T.isinstance (by decide +kernel) (pa_cons (pv 0) (pa_cons (pe_bltn (v := .ty "str") (u := .type "str") rfl T.str (by decide +kernel) rfl) pa_nil))) (pe_one (pe_cmpR (My.in_seqK (K := K) rfl) (pv 0) (pv 1) (by rfl)))))))), ?_⟩
    refine ⟨_, rfl, _, _, _, _, _, rfl, .ty "str", .base (.str x), L2.kit_ty (by decide +kernel), true, rfl, ?_⟩
    refine L2.iteT ?_
    refine ⟨_, rfl, _, rfl, a, _, rfl, .inr hS, rfl, My.all_flat_str ws, ?_⟩
    show Q (.bl (if false = true then _ else inV (.str x) (ws.map V.str))) H
    rw [if_neg Bool.false_ne_true, My.inV_str]
    exact q
theorem c_is_word (T : Txt K mg) : C8.Cal P w K mg base 1 "is_word" (sp_is_word K) [] := by
  obtain ⟨fd, F⟩ := T.f_is_word
  exact ⟨_, fd, _, _, ok_is_word T F, T.g_is_word, F.kp, F.bindsN (fun _ _ _ _ _ _ us hl => match us, hl with | [_, _], _ => rfl), .nil⟩
end
end K29

namespace K29
open PySem PySem.Spec PyProof.Rows L2 My
/-! ### books -/
abbrev acts : List Str := ["free", "full", "off", "code", "void", "look", "lock"]
abbrev moms : List Str := ["given", "laid", "left", "opened", "taken", "gone", "late", "power"]
abbrev RuleL := List Str
def GoodRule (r : RuleL) : Prop := r.length ≤ 6 ∧ ∀ x ∈ r, x ∈ acts
/-- a rule as it stands: a tuple of texts -/
def RuleAt (K : PySem.W.Frag) (H : Hp) (a : Addr) (r : RuleL) : Prop := SqT K H a (r.map V.str)
def bkf (d : Int) (t : Addr) : List (Str × V) := [("_days", V.int d), ("_rules", V.ref t)]
/-- a book of d days with these rules -/
def BookAt (K : PySem.W.Frag) (H : Hp) (b : Addr) (d : Int) (rs : List RuleL) : Prop := ∃ (dx t : Addr) (as : List Addr), H b = some (.ins (He.ga K "Book") dx (bkf d t)) ∧ SqT K H t (as.map V.ref) ∧ Paired (RuleAt K H) as rs ∧ rs.length = 8
theorem RuleAt.but {K : PySem.W.Frag} {xs : List Addr} {H H' : Hp} {a : Addr} {r : RuleL} (s : But xs H H') (n : a ∉ xs) (h : RuleAt K H a r) : RuleAt K H' a r := s.tup n h
theorem paired_map {α β : Type} {F G : α → β → Prop} : ∀ {l : List α} {m : List β}, (∀ a b, a ∈ l → F a b → G a b) → Paired F l m → Paired G l m
  | _, _, _, .nil => .nil
  | _, _, h, .cons r t => .cons (h _ _ (List.mem_cons_self ..) r) (paired_map (fun a b m => h a b (List.mem_cons_of_mem _ m)) t)
theorem paired_get {α β : Type} {F : α → β → Prop} : ∀ {l : List α} {m : List β} {i : Nat} {b : β}, Paired F l m → m[i]? = some b → ∃ a, l[i]? = some a ∧ F a b
  | _, _, _, _, .nil, e => by simp at e
  | _, _, 0, _, .cons r _, e => by simp at e; subst e; exact ⟨_, rfl, r⟩
  | _, _, i + 1, _, .cons _ t, e => by
    obtain ⟨a, h1, h2⟩ := paired_get t (by simpa using e)
    exact ⟨a, by simpa using h1, h2⟩
theorem BookAt.same {K : PySem.W.Frag} {H H' : Hp} {b : Addr} {d : Int} {rs : List RuleL} (s : Same H H') (h : BookAt K H b d rs) : BookAt K H' b d rs := by
  obtain ⟨dx, t, as, h1, h2, h3, h4⟩ := h
  exact ⟨dx, t, as, s _ _ h1, same_tup s h2, paired_map (fun a b _ r => same_tup s r) h3, h4⟩
section
variable {P : Program} {w : World} {K : PySem.W.Frag} {mg : Str → Option Value} {base : Heap}
def sp_is_rule (K : PySem.W.Frag) : Sp := fun vs H Q _ => ∃ (a : Addr) (r : RuleL), vs = [.ref a] ∧ RuleAt K H a r ∧ GoodRule r ∧ ∀ H', Same H H' → Q (.bl true) H'
set_option maxHeartbeats 2000000 in
theorem ok_is_rule (T : Txt K mg) {fd : FuncData} (F : FunD K d_is_rule.name d_is_rule.qual d_is_rule.params d_is_rule.body d_is_rule.scope (d_is_rule.dvs K) (d_is_rule.kws K) (He.fAd K d_is_rule.at_) fd) : FnOk P w K mg base C8.CX0 2 (He.fAd K d_is_rule.at_) fd ["value"] (sp_is_rule K) := by
  obtain ⟨t_MOST_ACTIONS, g_MOST_ACTIONS⟩ := T.g_MOST_ACTIONS
  have c_is_word := c_is_word (P := P) (w := w) (base := base) T
  refine F.ok sc_is_rule (fun vs H Q E h => ?_) (fun cdv A outer s H vs Q E hr h => ?_)
  · obtain ⟨a, r, rfl, _⟩ := h
    rfl
  · have hu := L2.hu_of hr
    obtain ⟨a, r, rfl, hS, hg, q⟩ := h
    refine ⟨_, (PSs.nox ((pss_cons (ps_if (PW.pt (pw_or (pt_not (pt_val (pe_callB (My.isiK (K := K) rfl) (by rfl) T.isinstance (by decide +kernel) (pa_cons (pv 0) (pa_cons (pe_bltn (v := .ty "tuple") (u := .type "tuple") rfl T.tuple (by decide +kernel) rfl) pa_nil))))) (pw_or1 (pt_cmpR op_gt (pe_callB (My.len_seqK (K := K) rfl) (by rfl) T.len (by decide +kernel) (pa_cons (pv 0) pa_nil)) (pe_glob (v := .int 6) rfl g_MOST_ACTIONS ⟨_, rfl⟩) (nomark _)))))
  (pss_one (ps_ret pe_bl))
  pss_nil)
  (pss_one (ps_ret (pe_callB (My.allK (K := K) rfl rfl) (by rfl) T.all (by decide +kernel) (pa_cons (pe_lc (own := [("action", 1)]) (g := (gName 1)) (tt := tYes) (by rfl) sc_is_rule.nd (My.pi_tupK (K := K) rfl (pv 0)) (blkOk_by (N := N_is_rule) (sc := defScope s_is_rule) (by decide +kernel)) (fun _ _ _ _ _ => (pg_name (i := 1) sc_is_rule.nd rfl (by first | exact Or.inl rfl | exact Or.inr rfl))) (fun _ _ _ _ _ => pts_nil) (fun _ _ _ _ _ => (C8.pe_c c_is_word hr (by decide) rfl (pa_cons (pv 1) (pa_cons (pe_glob (v := .ref (He.ga K "ACTIONS")) rfl T.g_ACTIONS rfl) pa_nil))))) pa_nil))))))), ?_⟩
    refine ⟨_, rfl, _, _, _, _, _, rfl, .ty "tuple", tyx_tup hS, L2.kit_ty (by decide +kernel), true, rfl, ?_⟩
    refine L2.iteF ?_
    refine ⟨_, rfl, a, _, rfl, .inr hS, _, _, rfl, rfl, _, rfl, ?_⟩
    have e : decide (((r.map V.str).length : Int) > 6) = false := decide_eq_false (by rw [List.length_map]; have := hg.1; omega)
    rw [e]
    refine L2.iteF ?_
    refine ⟨_, rfl, a, rfl, ⟨_, hS⟩, fun D hD => lc_tup (K := K) (a := a) (xs := r.map V.str) (fun i H' => Same H H' ∧ H' D = some (.lst ((List.replicate i true).map V.bl))) ⟨same_new hD, upd_same⟩ (fun i H' _ p => same_tup p.1 hS) ?_ ?_⟩
    · rintro i y H2 hi ⟨s2, hD2⟩
      obtain ⟨z, hz, rfl⟩ := map_get hi
      have hlt : i < r.length := (List.getElem?_eq_some_iff.mp hz).1
      have hm : z ∈ acts := hg.2 z (List.mem_of_getElem? hz)
      refine ⟨rfl, ?_⟩
      refine ⟨_, rfl, z, _, acts, rfl, T.tup_ACTIONS _, ?_⟩
      rw [decide_eq_true hm]
      refine ⟨_, hD2, ?_, same_upd s2 hD, ?_⟩
      · rw [List.length_map, List.length_replicate]
        have := hg.1
        exact Nat.lt_of_lt_of_le hlt (Nat.le_trans this (by decide))
      · rw [upd_same, List.replicate_succ', List.map_append]
        rfl
    · rintro H2 ⟨s2, hD2⟩
      refine ⟨D, _, rfl, SqL.of hD2, ?_⟩
      have e2 : (List.replicate (r.map V.str).length true).all id = true := List.all_eq_true.mpr fun x hx => (List.mem_replicate.mp hx).2
      rw [e2]
      exact q _ s2
theorem c_is_rule (T : Txt K mg) : C8.Cal P w K mg base 2 "is_rule" (sp_is_rule K) [] := by
  obtain ⟨fd, F⟩ := T.f_is_rule
  exact ⟨_, fd, _, _, ok_is_rule T F, T.g_is_rule, F.kp, F.bindsN (fun _ _ _ _ _ _ us hl => match us, hl with | [_], _ => rfl), .nil⟩
def sp_Book_init (K : PySem.W.Frag) : Sp := fun vs H Q _ => ∃ (p dx : Addr) (d : Int) (as : List Addr) (rs : List RuleL), vs = .ref p :: .int d :: as.map V.ref ∧ H p = some (.ins (He.ga K "Book") dx []) ∧ 1 ≤ d ∧ d ≤ 30 ∧
  Paired (RuleAt K H) as rs ∧ rs.length = 8 ∧ (∀ r ∈ rs, GoodRule r) ∧ ∀ H' t, But [p] H H' → H' p = some (.ins (He.ga K "Book") dx (bkf d t)) → H' t = some (.tup (as.map V.ref)) → Q .non H'
theorem len8 {α β : Type} {F : α → β → Prop} {as : List α} {rs : List β} (h : Paired F as rs) (e : rs.length = 8) : ∃ a0 a1 a2 a3 a4 a5 a6 a7, as = [a0, a1, a2, a3, a4, a5, a6, a7] := by
  have l : as.length = 8 := h.length.trans e
  match as, l with
  | [a0, a1, a2, a3, a4, a5, a6, a7], _ => exact ⟨a0, a1, a2, a3, a4, a5, a6, a7, rfl⟩
set_option maxHeartbeats 2000000 in
theorem ok_Book_init (T : Txt K mg) {fd : FuncData} (F : FunD K d_Book_init.name d_Book_init.qual d_Book_init.params d_Book_init.body d_Book_init.scope (d_Book_init.dvs K) (d_Book_init.kws K) (He.fAd K d_Book_init.at_) fd) : FnOk P w K mg base C8.CX0 3 (He.fAd K d_Book_init.at_) fd ["self", "days", "given", "laid", "left", "opened", "taken", "gone", "late", "power"] (sp_Book_init K) := by
  obtain ⟨t_MOST_DAYS, g_MOST_DAYS⟩ := T.g_MOST_DAYS
  have c_is_rule := c_is_rule (P := P) (w := w) (base := base) T
  have c_is_integer_within := c_is_integer_within (P := P) (w := w) (base := base) T
  refine F.ok sc_Book_init (fun vs H Q E h => ?_) (fun cdv A outer s H vs Q E hr h => ?_)
  · obtain ⟨p, dx, d, as, rs, rfl, _, _, _, h3, h4, _⟩ := h
    obtain ⟨a0, a1, a2, a3, a4, a5, a6, a7, rfl⟩ := len8 h3 h4
    rfl
  · have hu := L2.hu_of hr
    obtain ⟨p, dx, d, as, rs, rfl, hp, h1, h2, h3, h4, h5, q⟩ := h
    obtain ⟨a0, a1, a2, a3, a4, a5, a6, a7, rfl⟩ := len8 h3 h4
    refine ⟨_, (PSs.nox ((pss_cons (ps_if (pt_not (pt_val (C8.pe_c c_is_integer_within hr (by decide) rfl (pa_cons (pv 1) (pa_cons pe_int (pa_cons (pe_glob (v := .int 30) rfl g_MOST_DAYS ⟨_, rfl⟩) pa_nil))))))
  (pss_one ps_never)
  pss_nil)
  (pss_cons (ps_set (i := 10) sc_Book_init.nd rfl (by first | exact Or.inl rfl | exact Or.inr rfl) (pe_tup (pa_cons (pv 2) (pa_cons (pv 3) (pa_cons (pv 4) (pa_cons (pv 5) (pa_cons (pv 6) (pa_cons (pv 7) (pa_cons (pv 8) (pa_cons (pv 9) pa_nil))))))))))
  (pss_cons (ps_for PassesOwn.never rfl (RZ.pi_zipA (by rfl) T.zip (pa_cons (pe_glob (v := .ref (He.ga K "MOMENTS")) rfl T.g_MOMENTS rfl) (pa_cons (pv 10) pa_nil))) (My.pg_tupK (K := K) (n := 2) rfl rfl (pgs_cons (pg_name (i := 11) sc_Book_init.nd rfl (by first | exact Or.inl rfl | exact Or.inr rfl)) (pgs_cons (pg_name (i := 12) sc_Book_init.nd rfl (by first | exact Or.inl rfl | exact Or.inr rfl)) pgs_nil)))
  (pss_one (ps_if (pt_not (pt_val (C8.pe_c c_is_rule hr (by decide) rfl (pa_cons (pv 12) pa_nil))))
  (pss_one ps_never)
  pss_nil)))
  (pss_cons (ps_fld (pv 0) (pv 1) rfl)
  (pss_one (ps_fld (pv 0) (pv 10) rfl)))))))), ?_⟩
    refine ⟨_, rfl, d, 1, 30, rfl, true, by rw [decide_eq_true h1, decide_eq_true h2] <;> rfl, ?_⟩
    refine L2.iteF ?_
    refine ⟨_, rfl, _, rfl, _, rfl, _, rfl, _, rfl, _, rfl, _, rfl, _, rfl, by show 8 ≤ sizeLine; decide, fun t ht => ?_⟩
    have npt : p ≠ t := ne_of_none hp ht
    refine ⟨_, rfl, _, _, moms.map V.str, [V.ref a0, V.ref a1, V.ref a2, V.ref a3, V.ref a4, V.ref a5, V.ref a6, V.ref a7], rfl, .inr ⟨T.tup_MOMENTS _, SqT.of upd_same, ?_⟩⟩
    refine RZ.for_zipT (K := K) (xs := moms.map V.str) (ys := [V.ref a0, V.ref a1, V.ref a2, V.ref a3, V.ref a4, V.ref a5, V.ref a6, V.ref a7]) rfl (fun i σ H' => ∃ u v, σ = [some (.ref p), some (.int d), some (.ref a0), some (.ref a1), some (.ref a2), some (.ref a3), some (.ref a4), some (.ref a5), some (.ref a6), some (.ref a7), some (.ref t), u, v] ∧ Same (upd H t (.tup [V.ref a0, V.ref a1, V.ref a2, V.ref a3, V.ref a4, V.ref a5, V.ref a6, V.ref a7])) H')
      ⟨_, _, rfl, Same.refl _⟩ (fun i σ H' ⟨_, _, _, s⟩ => ⟨T.tup_MOMENTS _, same_tup s (SqT.of upd_same)⟩) ?_ ?_
    · rintro i x y T2 σ H2 hx hy ⟨u, v, rfl, s2⟩ hT2
      refine ⟨_, _, rfl, SqT.of upd_same, rfl, _, _, rfl, _, _, rfl, rfl, ?_⟩
      have hy' : ([a0, a1, a2, a3, a4, a5, a6, a7].map V.ref)[i]? = some y := hy
      obtain ⟨a, ha, rfl⟩ := map_get hy'
      obtain ⟨r, hr1, hr2⟩ : ∃ r, rs[i]? = some r ∧ RuleAt K H a r := by
        have hlt : i < rs.length := by rw [h4]; exact (List.getElem?_eq_some_iff.mp ha).1
        obtain ⟨b, hb, hR⟩ := paired_get h3 (List.getElem?_eq_getElem hlt)
        rw [ha] at hb
        cases hb
        exact ⟨_, List.getElem?_eq_getElem hlt, hR⟩
      have s3 : Same H (upd H2 T2 (.tup [x, .ref a])) := (same_new ht).trans (s2.trans (same_new hT2))
      refine ⟨_, rfl, a, r, rfl, same_tup s3 hr2, h5 r (List.mem_of_getElem? hr1), fun H3 s4 => ?_⟩
      refine ⟨true, rfl, L2.iteF ⟨_, _, rfl, s2.trans ((same_new hT2).trans s4)⟩⟩
    · rintro σ H2 ⟨u, v, rfl, s2⟩
      have hp2 : H2 p = some (.ins (He.ga K "Book") dx []) := s2 _ _ (by rw [upd_ne npt]; exact hp)
      have ht2 : H2 t = some (.tup [V.ref a0, V.ref a1, V.ref a2, V.ref a3, V.ref a4, V.ref a5, V.ref a6, V.ref a7]) := s2 _ _ upd_same
      refine ⟨_, rfl, _, rfl, p, _, dx, _, rfl, hp2, T.cl_Book, T.no_Book__days, (by show 0 < 1000; decide), ?_⟩
      refine ⟨_, rfl, _, rfl, p, _, dx, _, rfl, upd_same, T.cl_Book, T.no_Book__rules, (by show 1 < 1000; decide), ?_⟩
      refine q _ t ?_ upd_same ?_
      · exact (((But.of ((same_new ht).trans s2)).put (.inr (by simp))).put (.inr (by simp)))
      · rw [upd_ne npt.symm, upd_ne npt.symm]
        exact ht2
theorem c_Book_init (T : Txt K mg) : C8.Mak P w K mg base 3 "Book" (He.ga K "Book") (sp_Book_init K) [] := by
  obtain ⟨fd, F⟩ := T.f_Book_init
  obtain ⟨ds, rd, bd⟩ := F.binds1 (ps := ["self", "days", "given", "laid", "left", "opened", "taken", "gone", "late", "power"]) 10 8 (by intro z; cases z) rfl (fun T kV doc pm an cdv ct us its hl hi => match us, its, hl, hi with | [_, _, _, _, _, _, _, _, _, _], [_, _, _, _, _, _, _, _], _, _ => ⟨_, rfl, rfl⟩)
  exact ⟨_, fd, _, _, T.mk_Book, ok_Book_init T F, T.g_Book, bd, rd⟩
def sp_Book_days (K : PySem.W.Frag) : Sp := fun vs H Q _ => ∃ (b : Addr) (d : Int) (rs : List RuleL), vs = [.ref b] ∧ BookAt K H b d rs ∧ Q (.int d) H
set_option maxHeartbeats 2000000 in
theorem ok_Book_days (T : Txt K mg) {fd : FuncData} (F : FunD K d_Book_days.name d_Book_days.qual d_Book_days.params d_Book_days.body d_Book_days.scope (d_Book_days.dvs K) (d_Book_days.kws K) (He.fAd K d_Book_days.at_) fd) : FnOk P w K mg base C8.CX0 1 (He.fAd K d_Book_days.at_) fd ["self"] (sp_Book_days K) := by
  refine F.ok sc_Book_days (fun vs H Q E h => ?_) (fun cdv A outer s H vs Q E hr h => ?_)
  · obtain ⟨b, d, rs, rfl, _⟩ := h
    rfl
  · have hu := L2.hu_of hr
    obtain ⟨b, d, rs, rfl, ⟨dx, t, as, hb, _⟩, q⟩ := h
    refine ⟨_, (PSs.nox ((pss_one (ps_ret (My.pe_fldK (K := K) rfl (pv 0) rfl))))), ?_⟩
    exact ⟨_, rfl, b, _, dx, _, _, rfl, hb, T.cl_Book, T.no_Book__days, rfl, q⟩
theorem c_Book_days (T : Txt K mg) : C8.Met P w K mg base 1 (He.ga K "Book") "days" (sp_Book_days K) [] := by
  obtain ⟨fd, F⟩ := T.f_Book_days
  exact ⟨_, fd, _, _, T.cl_Book, T.m_Book_days, ok_Book_days T F, F.bindsN (fun _ _ _ _ _ _ us hl => match us, hl with | [_], _ => rfl), .nil⟩
/-- the rule of the i-th moment -/
def sp_Book_rule (K : PySem.W.Frag) : Sp := fun vs H Q _ => ∃ (H0 : Hp) (b : Addr) (d : Int) (rs : List RuleL) (m : Str) (i : Nat) (r : RuleL), vs = [.ref b, .str m] ∧ Same H0 H ∧ BookAt K H0 b d rs ∧ moms[i]? = some m ∧ rs[i]? = some r ∧ ∀ a, RuleAt K H0 a r → Q (.ref a) H
set_option maxHeartbeats 2000000 in
theorem ok_Book_rule (T : Txt K mg) {fd : FuncData} (F : FunD K d_Book_rule.name d_Book_rule.qual d_Book_rule.params d_Book_rule.body d_Book_rule.scope (d_Book_rule.dvs K) (d_Book_rule.kws K) (He.fAd K d_Book_rule.at_) fd) : FnOk P w K mg base C8.CX0 2 (He.fAd K d_Book_rule.at_) fd ["self", "moment"] (sp_Book_rule K) := by
  have c_is_word := c_is_word (P := P) (w := w) (base := base) T
  refine F.ok sc_Book_rule (fun vs H Q E h => ?_) (fun cdv A outer s H vs Q E hr h => ?_)
  · obtain ⟨H0, b, d, rs, m, i, r, rfl, _⟩ := h
    rfl
  · have hu := L2.hu_of hr
    obtain ⟨H0, b, d, rs, m, i, r, rfl, s0, ⟨dx, t, as, hb0, ht0, hrs, hl⟩, hm, hr1, q⟩ := h
    have hb := s0 _ _ hb0
    have ht := same_tup s0 ht0
    refine ⟨_, (PSs.nox ((pss_cons (ps_if (pt_not (pt_val (C8.pe_c c_is_word hr (by decide) rfl (pa_cons (pv 1) (pa_cons (pe_glob (v := .ref (He.ga K "MOMENTS")) rfl T.g_MOMENTS rfl) pa_nil)))))
  (pss_one ps_never)
  pss_nil)
  (pss_one (ps_ret (pe_ix (My.ix_tupK (K := K) rfl) (My.pe_fldK (K := K) rfl (pv 0) rfl) (My.pe_bmK (K := K) rfl PySem.F.plainAttrs_tuple PySem.F.slot_tuple_index PySem.F.type_tuple_index (My.tup_indexK (K := K) rfl) (pe_glob (v := .ref (He.ga K "MOMENTS")) rfl T.g_MOMENTS rfl) (pa_cons (pv 1) pa_nil)) (fun _ _ => rfl))))))), ?_⟩
    have hmem : m ∈ moms := List.mem_of_getElem? hm
    refine ⟨_, rfl, m, _, moms, rfl, T.tup_MOMENTS _, true, by rw [decide_eq_true hmem], ?_⟩
    refine L2.iteF ?_
    obtain ⟨a, ha, hR⟩ := paired_get hrs hr1
    have first : ∀ j, j < i → moms[j]? ≠ some m := by
      intro j hj e
      have hn : moms.Nodup := by decide +kernel
      exact absurd (L2.nd_ix hn e hm) (by omega)
    refine ⟨_, rfl, b, _, dx, _, _, rfl, hb, T.cl_Book, T.no_Book__rules, rfl, T.ty_MOMENTS _, _, rfl, _, moms, m, i, rfl, rfl, T.tup_MOMENTS _, hm, first, ?_⟩
    refine ⟨t, _, _, _, rfl, rfl, ht, atI_nat (by rw [List.getElem?_map, ha]; rfl), q a hR⟩
theorem c_Book_rule (T : Txt K mg) : C8.Met P w K mg base 2 (He.ga K "Book") "rule" (sp_Book_rule K) [] := by
  obtain ⟨fd, F⟩ := T.f_Book_rule
  exact ⟨_, fd, _, _, T.cl_Book, T.m_Book_rule, ok_Book_rule T F, F.bindsN (fun _ _ _ _ _ _ us hl => match us, hl with | [_, _], _ => rfl), .nil⟩
end
end K29

namespace K29
open PySem PySem.Spec PyProof.Rows L2 My
/-! ### springs: where a law's draws come from -/
/-- at a: a spring that was drawn from at most n times -/
def SpringAt (H : Hp) (a : Addr) (n : Nat) : Prop := ∃ w0 w1 w2 : Int, H a = some (.lst [.int w0, .int w1, .int w2]) ∧ w1.natAbs < 2 ^ 200 ∧ 0 ≤ w2 ∧ w2 ≤ (n : Int)
theorem SpringAt.mono {H : Hp} {a : Addr} {n m : Nat} (h : SpringAt H a n) (e : n ≤ m) : SpringAt H a m := by
  obtain ⟨w0, w1, w2, h1, h2, h3, h4⟩ := h
  exact ⟨w0, w1, w2, h1, h2, h3, by omega⟩
theorem pow_lt {x : Int} {k n : Nat} (h : x.natAbs < 2 ^ k) (hn : n ≠ 0) : (x ^ n).natAbs < 2 ^ (k * n) := by
  rw [Int.natAbs_pow, Nat.pow_mul]
  exact Nat.pow_lt_pow_left h hn
theorem two_le {a b x : Nat} (h : x < 2 ^ a) (e : a ≤ b) : x < 2 ^ b := Nat.lt_of_lt_of_le h (Nat.pow_le_pow_right (by decide) e)
theorem add_lt {x y : Int} {k : Nat} (h1 : x.natAbs < 2 ^ k) (h2 : y.natAbs < 2 ^ k) : (x + y).natAbs < 2 ^ (k + 1) := by
  have h3 := Int.natAbs_add_le x y
  have h4 : 2 ^ (k + 1) = 2 ^ k + 2 ^ k := by rw [Nat.pow_succ]; omega
  omega
theorem emod_lt2 {x m : Int} {k : Nat} (h0 : 0 < m) (h : m.natAbs < 2 ^ k) : (x % m).natAbs < 2 ^ k := by
  have h1 := Int.emod_nonneg x (show m ≠ 0 by omega)
  have h2 := Int.emod_lt_of_pos x h0
  omega
set_option exponentiation.threshold 20000 in
theorem powW {x j : Int} {k : Nat} (h : x.natAbs < 2 ^ k) (hk : k ≤ 10000) (h1 : 0 ≤ j) (h2 : j ≤ 100) : CPowW x j := ⟨h1, h2, two_le h hk⟩
theorem ten_pow {j : Int} (h1 : 0 ≤ j) (h2 : j ≤ 100) : CPowW 10 j := powW (k := 4) (by decide) (by decide) h1 h2
section
variable {P : Program} {w : World} {K : PySem.W.Frag} {mg : Str → Option Value} {base : Heap}
def sp_law_drop (K : PySem.W.Frag) : Sp := fun vs H Q _ => ∃ (a : Addr) (n : Nat) (many : Int), vs = [.ref a, .int many] ∧ SpringAt H a n ∧ n < 2 ^ 100 ∧ 0 < many ∧ many < 2 ^ 100 ∧
  ∀ H' k, But [a] H H' → SpringAt H' a (n + 1) → 0 ≤ k → k < many → Q (.int k) H'
set_option maxHeartbeats 2000000 in
theorem ok_law_drop (T : Txt K mg) {fd : FuncData} (F : FunD K d_law_drop.name d_law_drop.qual d_law_drop.params d_law_drop.body d_law_drop.scope (d_law_drop.dvs K) (d_law_drop.kws K) (He.fAd K d_law_drop.at_) fd) : FnOk P w K mg base C8.CX0 1 (He.fAd K d_law_drop.at_) fd ["spring", "many"] (sp_law_drop K) := by
  refine F.ok sc_law_drop (fun vs H Q E h => ?_) (fun cdv A outer s H vs Q E hr h => ?_)
  · obtain ⟨a, n, many, rfl, _⟩ := h
    rfl
  · have hu := L2.hu_of hr
    obtain ⟨a, n, many, rfl, ⟨w0, w1, w2, ha, hw1, hw2, hw3⟩, hn, hm0, hm1, q⟩ := h
    refine ⟨_, (PSs.nox ((pss_cons (ps_if (pt_cmpR op_gt (pe_ix (My.ix_listK (K := K) rfl) (pv 0) pe_int (fun _ _ => rfl)) pe_int (nomark _))
  (pss_cons (ps_set (i := 2) sc_law_drop.nd rfl (by first | exact Or.inl rfl | exact Or.inr rfl) (pe_op op_mod (pe_callTy call_int1 (by rfl) T.int (by decide +kernel) (pa_cons (pe_ix (My.ix_listK (K := K) rfl) (pv 0) pe_int (fun _ _ => rfl)) pa_nil)) (pv 1)))
  (pss_cons (ps_asg (pe_op op_fdivW (pe_ix (My.ix_listK (K := K) rfl) (pv 0) pe_int (fun _ _ => rfl)) (pv 1)) (pg_sub (pv 0) pe_int set_list))
  (pss_one (ps_ret (pv 2)))))
  pss_nil)
  (pss_cons (ps_asg (pe_op op_add (pe_ix (My.ix_listK (K := K) rfl) (pv 0) pe_int (fun _ _ => rfl)) pe_int) (pg_sub (pv 0) pe_int set_list))
  (pss_cons (ps_set (i := 3) sc_law_drop.nd rfl (by first | exact Or.inl rfl | exact Or.inr rfl) (pe_op op_mod (pe_callTy call_int1 (by rfl) T.int (by decide +kernel) (pa_cons (pe_op op_add (pe_op My.op_powW (pe_ix (My.ix_listK (K := K) rfl) (pv 0) pe_int (fun _ _ => rfl)) pe_int) (pe_op op_mulW pe_int (pe_op My.op_powW (pe_ix (My.ix_listK (K := K) rfl) (pv 0) pe_int (fun _ _ => rfl)) pe_int))) pa_nil)) (pe_op op_add (pe_op My.op_powW pe_int pe_int) pe_int)))
  (pss_cons (ps_set (i := 3) sc_law_drop.nd rfl (by first | exact Or.inl rfl | exact Or.inr rfl) (pe_op op_mod (pe_callTy call_int1 (by rfl) T.int (by decide +kernel) (pa_cons (pe_op My.op_powW (pe_op op_add (pv 3) pe_int) pe_int) pa_nil)) (pe_op op_add (pe_op My.op_powW pe_int pe_int) pe_int)))
  (pss_one (ps_ret (pe_op op_mod (pe_callTy call_int1 (by rfl) T.int (by decide +kernel) (pa_cons (pe_op op_fdivW (pv 3) (pe_op My.op_powW pe_int pe_int)) pa_nil)) (pv 1)))))))))), ?_⟩
    have hmW : CDivW w0 many := wide_div (b := 100) hm0 (by omega) (by decide) (by decide)
    refine ⟨_, rfl, a, _, _, _, rfl, rfl, SqL.of ha, rfl, _, _, rfl, rfl, _, rfl, ?_⟩
    refine L2.ite2 (fun c => ?_) (fun c => ?_)
    · refine ⟨_, rfl, a, _, _, _, rfl, rfl, SqL.of ha, rfl, .inl ⟨_, rfl, _, rfl, _, _, rfl, rfl, hm0, ?_⟩⟩
      refine ⟨_, rfl, a, _, _, _, rfl, rfl, SqL.of ha, rfl, _, rfl, _, _, rfl, rfl, hmW, _, rfl, a, _, 0, 0, rfl, rfl, ha, rfl, ?_⟩
      refine ⟨_, rfl, q _ _ ((But.refl _ _).put (.inr (by simp))) ⟨_, w1, w2, upd_same, hw1, hw2, by omega⟩ (Int.emod_nonneg _ (by omega)) (Int.emod_lt_of_pos _ hm0)⟩
    · have b2 : (w2 + 1).natAbs < 2 ^ 101 := by
        have : (2 : Nat) ^ 101 = 2 ^ 100 + 2 ^ 100 := by decide
        omega
      have p2 := pow_lt (n := 2) hw1 (by decide)
      have p3 := pow_lt (n := 3) b2 (by decide)
      have m1 : (179426549 : Int).natAbs < 2 ^ 40 := by decide
      have m37 : (0 : Int) < 10 ^ (37 : Int).toNat + 43 := by decide
      have m35 : (0 : Int) < 10 ^ (35 : Int).toNat + 69 := by decide
      refine ⟨_, rfl, a, _, _, _, rfl, rfl, SqL.of ha, rfl, _, _, rfl, rfl, _, rfl, a, _, 2, 2, rfl, rfl, ha, rfl, ?_⟩
      have ha2 : upd H a (.lst [.int w0, .int w1, .int (w2 + 1)]) a = some (.lst [.int w0, .int w1, .int (w2 + 1)]) := upd_same
      refine ⟨_, rfl, a, _, _, _, rfl, rfl, SqL.of ha2, rfl, _, _, rfl, rfl, powW hw1 (by decide) (by decide) (by decide), ?_⟩
      refine ⟨_, rfl, a, _, _, _, rfl, rfl, SqL.of ha2, rfl, _, _, rfl, rfl, powW b2 (by decide) (by decide) (by decide), ?_⟩
      refine ⟨_, _, rfl, rfl, wide_mul m1 p3 (by decide) (by decide) (by decide), ?_⟩
      refine ⟨_, _, rfl, rfl, .inl ⟨_, rfl, _, _, rfl, rfl, ten_pow (by decide) (by decide), _, _, rfl, rfl, _, _, rfl, rfl, m37, ?_⟩⟩
      have e1 := emod_lt2 (x := (w1 ^ (2 : Int).toNat + 179426549 * (w2 + 1) ^ (3 : Int).toNat)) (m := 10 ^ (37 : Int).toNat + 43) (k := 130) (by decide) (by decide)
      have e2 := add_lt (y := 15487469) e1 (by decide)
      refine ⟨_, rfl, _, _, rfl, rfl, _, _, rfl, rfl, powW e2 (by decide) (by decide) (by decide), .inl ⟨_, rfl, ?_⟩⟩
      refine ⟨_, _, rfl, rfl, ten_pow (by decide) (by decide), _, _, rfl, rfl, _, _, rfl, rfl, m35, ?_⟩
      refine ⟨_, rfl, _, _, rfl, rfl, ten_pow (by decide) (by decide), _, _, rfl, rfl, wide_div (b := 100) (by decide) (by decide) (by decide) (by decide), .inl ⟨_, rfl, ?_⟩⟩
      refine ⟨_, rfl, _, _, rfl, rfl, hm0, ?_⟩
      exact q _ _ ((But.refl _ _).put (.inr (by simp))) ⟨_, w1, w2 + 1, upd_same, hw1, by omega, by omega⟩ (Int.emod_nonneg _ (by omega)) (Int.emod_lt_of_pos _ hm0)
theorem c_law_drop (T : Txt K mg) : C8.Cal P w K mg base 1 "_law_drop" (sp_law_drop K) [] := by
  obtain ⟨fd, F⟩ := T.f_law_drop
  exact ⟨_, fd, _, _, ok_law_drop T F, T.g_law_drop, F.kp, F.bindsN (fun _ _ _ _ _ _ us hl => match us, hl with | [_, _], _ => rfl), .nil⟩
def sp_law_spring (K : PySem.W.Frag) : Sp := fun vs H Q _ => ∃ (a : Addr) (ns : List Int) (k : Int), vs = [.ref a, .int k] ∧ SqL K H a (ns.map V.int) ∧ 0 ≤ k ∧ k < 100 ∧
  ∀ H' p, H p = none → Same H H' → SpringAt H' p 1 → Q (.ref p) H'
set_option maxHeartbeats 2000000 in
theorem ok_law_spring (T : Txt K mg) {fd : FuncData} (F : FunD K d_law_spring.name d_law_spring.qual d_law_spring.params d_law_spring.body d_law_spring.scope (d_law_spring.dvs K) (d_law_spring.kws K) (He.fAd K d_law_spring.at_) fd) : FnOk P w K mg base C8.CX0 1 (He.fAd K d_law_spring.at_) fd ["script", "k"] (sp_law_spring K) := by
  refine F.ok sc_law_spring (fun vs H Q E h => ?_) (fun cdv A outer s H vs Q E hr h => ?_)
  · obtain ⟨a, ns, k, rfl, _⟩ := h
    rfl
  · have hu := L2.hu_of hr
    obtain ⟨a, ns, k, rfl, hS, hk0, hk1, q⟩ := h
    refine ⟨_, (PSs.nox ((pss_cons (ps_set (i := 2) sc_law_spring.nd rfl (by first | exact Or.inl rfl | exact Or.inr rfl) (pe_ifExp (pt_cmpR op_lt (pv 1) (pe_callB (My.len_seqK (K := K) rfl) (by rfl) T.len (by decide +kernel) (pa_cons (pv 0) pa_nil)) (nomark _)) (pe_callTy call_int1 (by rfl) T.int (by decide +kernel) (pa_cons (pe_ix (My.ix_listK (K := K) rfl) (pv 0) (pv 1) (fun _ _ => rfl)) pa_nil)) pe_int))
  (pss_one (ps_ret (pe_lst (pa_cons (pe_callB (call_max2 rfl) (by rfl) T.max (by decide +kernel) (pa_cons pe_int (pa_cons (pe_op op_sub (pe_callB call_abs (by rfl) T.abs (by decide +kernel) (pa_cons (pv 2) pa_nil)) (pe_op My.op_powW pe_int pe_int)) pa_nil))) (pa_cons (pe_op op_add (pe_op op_mod (pe_callTy call_int1 (by rfl) T.int (by decide +kernel) (pa_cons (pv 2) pa_nil)) (pe_op op_add (pe_op My.op_powW pe_int pe_int) pe_int)) (pe_op op_mulW pe_int (pe_op op_add (pv 1) pe_int))) (pa_cons pe_int pa_nil))))))))), ?_⟩
    have fin : ∀ cell : Int, (∀ p, H p = none → ∀ w0, Q (.ref p) (upd H p (.lst [.int w0, .int (cell % (10 ^ (31 : Int).toNat + 33) + 2750159 * (k + 1)), .int 1]))) := by
      intro cell p hp w0
      refine q _ p hp (same_new hp) ⟨_, _, _, upd_same, ?_, by decide, by decide⟩
      have e1 := emod_lt2 (x := cell) (m := 10 ^ (31 : Int).toNat + 33) (k := 110) (by decide) (by decide)
      have e2 : (2750159 * (k + 1)).natAbs < 2 ^ 110 := by
        have : (2 : Nat) ^ 110 > 300000000 := by decide
        omega
      exact two_le (add_lt e1 e2) (by decide)
    refine ⟨_, rfl, _, rfl, a, _, rfl, .inl hS, _, _, rfl, rfl, _, rfl, ?_⟩
    have m31 : (0 : Int) < 10 ^ (31 : Int).toNat + 33 := by decide
    have mk : CMulW 2750159 (k + 1) := by
      refine wide_mul (a := 40) (b := 40) (by decide) ?_ (by decide) (by decide) (by decide)
      have : (2 : Nat) ^ 40 > 1000 := by decide
      omega
    rw [List.length_map]
    refine L2.ite2 (fun c => ?_) (fun c => ?_)
    · have hlt : k < (ns.length : Int) := of_decide_eq_true c
      obtain ⟨j, rfl⟩ : ∃ j : Nat, k = (j : Int) := ⟨k.toNat, by omega⟩
      have hj : j < ns.length := by omega
      refine ⟨_, rfl, _, rfl, a, _, _, _, rfl, rfl, hS, atI_nat (by rw [List.getElem?_map, List.getElem?_eq_getElem hj]; rfl), .inl ⟨_, rfl, ?_⟩⟩
      refine ⟨_, rfl, _, rfl, _, _, rfl, rfl, ten_pow (by decide) (by decide), _, _, rfl, rfl, _, _, rfl, ?_⟩
      refine ⟨_, rfl, .inl ⟨_, rfl, _, _, rfl, rfl, ten_pow (by decide) (by decide), _, _, rfl, rfl, _, _, rfl, rfl, m31, ?_⟩⟩
      refine ⟨_, rfl, _, _, rfl, rfl, _, _, rfl, rfl, mk, _, _, rfl, rfl, by show 3 ≤ sizeLine; decide, fun p hp => fin _ p hp _⟩
    · refine ⟨_, rfl, _, rfl, _, _, rfl, rfl, ten_pow (by decide) (by decide), _, _, rfl, rfl, _, _, rfl, ?_⟩
      refine ⟨_, rfl, .inl ⟨_, rfl, _, _, rfl, rfl, ten_pow (by decide) (by decide), _, _, rfl, rfl, _, _, rfl, rfl, m31, ?_⟩⟩
      refine ⟨_, rfl, _, _, rfl, rfl, _, _, rfl, rfl, mk, _, _, rfl, rfl, by show 3 ≤ sizeLine; decide, fun p hp => fin _ p hp _⟩
theorem c_law_spring (T : Txt K mg) : C8.Cal P w K mg base 1 "_law_spring" (sp_law_spring K) [] := by
  obtain ⟨fd, F⟩ := T.f_law_spring
  exact ⟨_, fd, _, _, ok_law_spring T F, T.g_law_spring, F.kp, F.bindsN (fun _ _ _ _ _ _ us hl => match us, hl with | [_, _], _ => rfl), .nil⟩
end
end K29

namespace K29
open PySem PySem.Spec PyProof.Rows L2 My
theorem SpringAt.put {H : Hp} {a b : Addr} {n : Nat} {o : HO} (h : SpringAt H a n) (ne : a ≠ b) : SpringAt (upd H b o) a n := by
  obtain ⟨w0, w1, w2, h1, h2⟩ := h
  exact ⟨w0, w1, w2, by rw [upd_ne ne]; exact h1, h2⟩
theorem SpringAt.same {H H' : Hp} {a : Addr} {n : Nat} (s : Same H H') (h : SpringAt H a n) : SpringAt H' a n := by
  obtain ⟨w0, w1, w2, h1, h2⟩ := h
  exact ⟨w0, w1, w2, s _ _ h1, h2⟩
/-- a list of other things stands apart from a spring -/
theorem SpringAt.ne {H : Hp} {a b : Addr} {n : Nat} {o : HO} (h : SpringAt H a n) (hb : H b = some o) (no : ∀ i r, o ≠ .lst (.int i :: r)) : a ≠ b := by
  obtain ⟨w0, w1, w2, h1, _⟩ := h
  exact ne_of h1 hb fun z => no _ _ z.symm
theorem strs_no (ws : List Str) (i : Int) (r : List V) : HO.lst (ws.map V.str) ≠ .lst (.int i :: r) := by
  intro z
  cases ws with
  | nil => cases z
  | cons x l => cases z
theorem refs_no (ws : List Addr) (i : Int) (r : List V) : HO.lst (ws.map V.ref) ≠ .lst (.int i :: r) := by
  intro z
  cases ws with
  | nil => cases z
  | cons x l => cases z
theorem tup_no (ws : List V) (i : Int) (r : List V) : HO.tup ws ≠ .lst (.int i :: r) := fun z => by cases z
/-- a tuple stands as it was behind a change of a spring -/
theorem But.tupS {K : PySem.W.Frag} {H H' : Hp} {a b : Addr} {n : Nat} {xs : List V} (s : But [a] H H') (h : SpringAt H a n) (t : SqT K H b xs) : SqT K H' b xs := by
  obtain ⟨w0, w1, w2, h1, _⟩ := h
  rcases t with (t | ⟨o, t⟩) | t
  · exact .inl (.inl (s _ _ (by simpa using (ne_of t h1 (fun z => by cases z))) t))
  · exact .inl (.inr ⟨o, s _ _ (by simpa using (ne_of t h1 (fun z => by cases z))) t⟩)
  · exact .inr t
section
variable {P : Program} {w : World} {K : PySem.W.Frag} {mg : Str → Option Value} {base : Heap}
def sp_law_springs (K : PySem.W.Frag) : Sp := fun vs H Q _ => ∃ (a : Addr) (ns : List Int), vs = [.ref a] ∧ SqL K H a (ns.map V.int) ∧ ns.length ≤ 63 ∧
  ∀ H' p as, H p = none → Same H H' → H' p = some (.lst (as.map V.ref)) → as ≠ [] → as.length ≤ 63 → (∀ x ∈ as, H x = none ∧ SpringAt H' x 1) → Q (.ref p) H'
def sp_law_rule (K : PySem.W.Frag) : Sp := fun vs H Q _ => ∃ (a b : Addr) (n : Nat) (ws : List Str) (most : Nat), vs = [.ref a, .ref b, .int (most : Int)] ∧ SpringAt H a n ∧ SqL K H b (ws.map V.str) ∧ ws ≠ [] ∧ ws.length ≤ 100 ∧ most ≤ 100 ∧ n < 2 ^ 99 ∧
  ∀ H' p r, But [a] H H' → SpringAt H' a (n + most + 1) → RuleAt K H' p r → r.length ≤ most → (∀ x ∈ r, x ∈ ws) → Q (.ref p) H'
theorem lstS {K : PySem.W.Frag} {H H' : Hp} {a b : Addr} {n : Nat} {xs : List V} (s : But [a] H H') (h : SpringAt H a n) (t : SqL K H b xs) (no : ∀ i r, HO.lst xs ≠ .lst (.int i :: r)) : SqL K H' b xs := by
  obtain ⟨w0, w1, w2, h1, _⟩ := h
  rcases t with (t | ⟨o, t⟩) | t
  · exact .inl (.inl (s _ _ (by simpa using (ne_of t h1 (fun z => no _ _ z))) t))
  · exact .inl (.inr ⟨o, s _ _ (by simpa using (ne_of t h1 (fun z => by cases z))) t⟩)
  · exact .inr t
/-- a book is made of a number and a list of eight rules -/
def sp_law_made (K : PySem.W.Frag) : Sp := fun vs H Q _ => ∃ (b : Addr) (d : Int) (as : List Addr) (rs : List RuleL), vs = [.int d, .ref b] ∧ SqL K H b (as.map V.ref) ∧ 1 ≤ d ∧ d ≤ 30 ∧ Paired (RuleAt K H) as rs ∧ rs.length = 8 ∧ (∀ r ∈ rs, GoodRule r) ∧
  ∀ H' p, H p = none → Same H H' → BookAt K H' p d rs → Q (.ref p) H'
set_option maxHeartbeats 2000000 in
theorem ok_law_made (T : Txt K mg) {fd : FuncData} (F : FunD K d_law_made.name d_law_made.qual d_law_made.params d_law_made.body d_law_made.scope (d_law_made.dvs K) (d_law_made.kws K) (He.fAd K d_law_made.at_) fd) : FnOk P w K mg base C8.CX0 5 (He.fAd K d_law_made.at_) fd ["limit", "rules"] (sp_law_made K) := by
  have c_Book_init := c_Book_init (P := P) (w := w) (base := base) T
  refine F.ok sc_law_made (fun vs H Q E h => ?_) (fun cdv A outer s H vs Q E hr h => ?_)
  · obtain ⟨b, d, as, rs, rfl, _⟩ := h
    rfl
  · have hu := L2.hu_of hr
    obtain ⟨b, d, as, rs, rfl, hb, h1, h2, h3, h4, h5, q⟩ := h
    refine ⟨_, (PSs.nox ((pss_one (ps_ret (C8.pe_mk c_Book_init hr (by decide) rfl (pa_cons (pv 0) (pa_cons (pe_ix (My.ix_listK (K := K) rfl) (pv 1) pe_int (fun _ _ => rfl)) (pa_cons (pe_ix (My.ix_listK (K := K) rfl) (pv 1) pe_int (fun _ _ => rfl)) (pa_cons (pe_ix (My.ix_listK (K := K) rfl) (pv 1) pe_int (fun _ _ => rfl)) (pa_cons (pe_ix (My.ix_listK (K := K) rfl) (pv 1) pe_int (fun _ _ => rfl)) (pa_cons (pe_ix (My.ix_listK (K := K) rfl) (pv 1) pe_int (fun _ _ => rfl)) (pa_cons (pe_ix (My.ix_listK (K := K) rfl) (pv 1) pe_int (fun _ _ => rfl)) (pa_cons (pe_ix (My.ix_listK (K := K) rfl) (pv 1) pe_int (fun _ _ => rfl)) (pa_cons (pe_ix (My.ix_listK (K := K) rfl) (pv 1) pe_int (fun _ _ => rfl)) pa_nil)))))))))))))), ?_⟩
    obtain ⟨a0, a1, a2, a3, a4, a5, a6, a7, rfl⟩ := len8 h3 h4
    refine ⟨_, rfl, ?_⟩
    iterate 8 refine ⟨_, rfl, b, _, _, _, rfl, rfl, hb, rfl, ?_⟩
    intro x dx nx ndx nex
    have s0 : Same H (upd (upd H dx (.own x)) x (.ins (He.ga K "Book") dx [])) := (same_new ndx).trans (same_upd (Same.refl _) (by rw [upd_ne nex.symm]; exact nx))
    refine ⟨x, dx, d, _, rs, rfl, upd_same, h1, h2, paired_map (fun a r _ hr => same_tup s0 hr) h3, h4, h5, fun H' t bt hx ht => ⟨rfl, ?_⟩⟩
    have s1 : Same H H' := fun c o e => bt c o (by simpa using ne_of_none e nx) (s0 _ _ e)
    exact q _ x nx s1 ⟨dx, t, _, hx, SqT.of ht, paired_map (fun a r _ hr => same_tup s1 hr) h3, h4⟩
theorem c_law_made (T : Txt K mg) : C8.Cal P w K mg base 5 "_law_made" (sp_law_made K) [] := by
  obtain ⟨fd, F⟩ := T.f_law_made
  exact ⟨_, fd, _, _, ok_law_made T F, T.g_law_made, F.kp, F.bindsN (fun _ _ _ _ _ _ us hl => match us, hl with | [_, _], _ => rfl), .nil⟩
end
end K29

namespace K29
open PySem PySem.Spec PyProof.Rows L2 My
/-! ### deeds -/
inductive Deed where
  | bring (l s : Bool) | code (p : Int) (t s : Bool) | pass | day | power
  deriving DecidableEq
def Deed.w : Deed → Str
  | .bring _ _ => "bring"
  | .code _ _ _ => "code"
  | .pass => "pass"
  | .day => "day"
  | .power => "power"
def Deed.vs : Deed → List V
  | .bring l s => [.str "bring", .bl l, .bl s]
  | .code p t s => [.str "code", .int p, .bl t, .bl s]
  | .pass => [.str "pass"]
  | .day => [.str "day"]
  | .power => [.str "power"]
def Deed.Ok : Deed → Prop
  | .code p _ _ => 1 ≤ p ∧ p ≤ 1000000000
  | _ => True
def DeedAt (K : PySem.W.Frag) (H : Hp) (v : V) (d : Deed) : Prop := ∃ a, v = .ref a ∧ SqT K H a d.vs
def isBr : Deed → Bool
  | .bring _ _ => true
  | _ => false
def brs (l : List Deed) : Nat := l.countP isBr
def Playable (ds : List Deed) : Prop := ds.length ≤ 100000000 ∧ ∀ i p t s, ds[i]? = some (.code p t s) → 1 ≤ p ∧ p ≤ (brs (ds.take i) : Int)
theorem brs_le (l : List Deed) : brs l ≤ l.length := List.countP_le_length
theorem Playable.ok {ds : List Deed} (h : Playable ds) : ∀ d ∈ ds, d.Ok := by
  intro d hd
  obtain ⟨i, hi⟩ := List.mem_iff_getElem?.mp hd
  cases d with
  | code p t s =>
    obtain ⟨h1, h2⟩ := h.2 i p t s hi
    have h3 := brs_le (ds.take i)
    have h4 : (ds.take i).length ≤ ds.length := by rw [List.length_take]; omega
    have h5 := h.1
    exact ⟨h1, by omega⟩
  | _ => trivial
theorem take_more {α : Type} {l : List α} {i : Nat} {x : α} (h : l[i]? = some x) : l.take (i + 1) = l.take i ++ [x] := by
  rw [List.take_add_one, h]
  rfl
theorem brs_more {l : List Deed} {i : Nat} {d : Deed} (h : l[i]? = some d) : brs (l.take (i + 1)) = brs (l.take i) + (if isBr d then 1 else 0) := by
  unfold brs
  rw [take_more h, List.countP_append, List.countP_singleton]
section
variable {P : Program} {w : World} {K : PySem.W.Frag} {mg : Str → Option Value} {base : Heap}
def sp_are_truths (K : PySem.W.Frag) : Sp := fun vs H Q _ => ∃ (a : Addr) (bs : List Bool), vs = [.ref a] ∧ SqT K H a (bs.map V.bl) ∧ bs.length ≤ 100 ∧ ∀ H', Same H H' → Q (.bl true) H'
set_option maxHeartbeats 2000000 in
theorem ok_are_truths (T : Txt K mg) {fd : FuncData} (F : FunD K d_are_truths.name d_are_truths.qual d_are_truths.params d_are_truths.body d_are_truths.scope (d_are_truths.dvs K) (d_are_truths.kws K) (He.fAd K d_are_truths.at_) fd) : FnOk P w K mg base C8.CX0 2 (He.fAd K d_are_truths.at_) fd ["values"] (sp_are_truths K) := by
  have c_is_truth := c_is_truth (P := P) (w := w) (base := base) T
  refine F.ok sc_are_truths (fun vs H Q E h => ?_) (fun cdv A outer s H vs Q E hr h => ?_)
  · obtain ⟨a, bs, rfl, _⟩ := h
    rfl
  · have hu := L2.hu_of hr
    obtain ⟨a, bs, rfl, hS, hl, q⟩ := h
    refine ⟨_, (PSs.nox ((pss_one (ps_ret (pe_callB (My.allK (K := K) rfl rfl) (by rfl) T.all (by decide +kernel) (pa_cons (pe_lc (own := [("value", 1)]) (g := (gName 1)) (tt := tYes) (by rfl) sc_are_truths.nd (My.pi_tupK (K := K) rfl (pv 0)) (blkOk_by (N := N_are_truths) (sc := defScope s_are_truths) (by decide +kernel)) (fun _ _ _ _ _ => (pg_name (i := 1) sc_are_truths.nd rfl (by first | exact Or.inl rfl | exact Or.inr rfl))) (fun _ _ _ _ _ => pts_nil) (fun _ _ _ _ _ => (C8.pe_c c_is_truth hr (by decide) rfl (pa_cons (pv 1) pa_nil)))) pa_nil)))))), ?_⟩
    refine ⟨_, rfl, a, rfl, ⟨_, hS⟩, fun D hD => lc_tup (K := K) (a := a) (xs := bs.map V.bl) (fun i H' => Same H H' ∧ H' D = some (.lst ((List.replicate i true).map V.bl))) ⟨same_new hD, upd_same⟩ (fun i H' _ p => same_tup p.1 hS) ?_ ?_⟩
    · rintro i y H2 hi ⟨s2, hD2⟩
      obtain ⟨z, hz, rfl⟩ := map_get hi
      have hlt : i < bs.length := (List.getElem?_eq_some_iff.mp hz).1
      refine ⟨rfl, ?_⟩
      refine ⟨_, rfl, z, rfl, _, hD2, ?_, same_upd s2 hD, ?_⟩
      · rw [List.length_map, List.length_replicate]
        exact Nat.lt_of_lt_of_le (show i < 100 by omega) (by decide)
      · rw [upd_same, List.replicate_succ', List.map_append]
        rfl
    · rintro H2 ⟨s2, hD2⟩
      refine ⟨D, _, rfl, SqL.of hD2, ?_⟩
      have e2 : (List.replicate (bs.map V.bl).length true).all id = true := List.all_eq_true.mpr fun x hx => (List.mem_replicate.mp hx).2
      rw [e2]
      exact q _ s2
theorem c_are_truths (T : Txt K mg) : C8.Cal P w K mg base 2 "are_truths" (sp_are_truths K) [] := by
  obtain ⟨fd, F⟩ := T.f_are_truths
  exact ⟨_, fd, _, _, ok_are_truths T F, T.g_are_truths, F.kp, F.bindsN (fun _ _ _ _ _ _ us hl => match us, hl with | [_], _ => rfl), .nil⟩
def sp_is_deed (K : PySem.W.Frag) : Sp := fun vs H Q _ => ∃ (v : V) (d : Deed), vs = [v] ∧ DeedAt K H v d ∧ d.Ok ∧ ∀ H', Same H H' → Q (.bl true) H'
set_option maxHeartbeats 2000000 in
theorem ok_is_deed (T : Txt K mg) {fd : FuncData} (F : FunD K d_is_deed.name d_is_deed.qual d_is_deed.params d_is_deed.body d_is_deed.scope (d_is_deed.dvs K) (d_is_deed.kws K) (He.fAd K d_is_deed.at_) fd) : FnOk P w K mg base C8.CX0 3 (He.fAd K d_is_deed.at_) fd ["value"] (sp_is_deed K) := by
  obtain ⟨t_MOST_PARCEL, g_MOST_PARCEL⟩ := T.g_MOST_PARCEL
  have c_are_truths := c_are_truths (P := P) (w := w) (base := base) T
  have c_is_integer_within := c_is_integer_within (P := P) (w := w) (base := base) T
  refine F.ok sc_is_deed (fun vs H Q E h => ?_) (fun cdv A outer s H vs Q E hr h => ?_)
  · obtain ⟨v, d, rfl, _⟩ := h
    rfl
  · have hu := L2.hu_of hr
    obtain ⟨v, d, rfl, ⟨a, rfl, hS⟩, hok, q⟩ := h
    refine ⟨_, (PSs.nox ((pss_cons (ps_if (PW.pt (pw_or (pt_not (pt_val (pe_callB (My.isiK (K := K) rfl) (by rfl) T.isinstance (by decide +kernel) (pa_cons (pv 0) (pa_cons (pe_bltn (v := .ty "tuple") (u := .type "tuple") rfl T.tuple (by decide +kernel) rfl) pa_nil))))) (pw_or (pt_cmpR op_eq (pe_callB (My.len_seqK (K := K) rfl) (by rfl) T.len (by decide +kernel) (pa_cons (pv 0) pa_nil)) pe_int (nomark _)) (pw_or1 (pt_not (pt_val (pe_callB (My.isiK (K := K) rfl) (by rfl) T.isinstance (by decide +kernel) (pa_cons (pe_ix (My.ix_tupK (K := K) rfl) (pv 0) pe_int (fun _ _ => rfl)) (pa_cons (pe_bltn (v := .ty "str") (u := .type "str") rfl T.str (by decide +kernel) rfl) pa_nil)))))))))
  (pss_one (ps_ret pe_bl))
  pss_nil)
  (pss_cons (ps_set (i := 1) sc_is_deed.nd rfl (by first | exact Or.inl rfl | exact Or.inr rfl) (pe_ix (My.ix_tupK (K := K) rfl) (pv 0) pe_int (fun _ _ => rfl)))
  (pss_cons (ps_if (pt_cmpR op_eq (pv 1) pe_str (nomark _))
  (pss_one (ps_ret (pe_and (pe_cmpR op_eq (pe_callB (My.len_seqK (K := K) rfl) (by rfl) T.len (by decide +kernel) (pa_cons (pv 0) pa_nil)) pe_int (nomark _)) (pe_one (C8.pe_c c_are_truths hr (by decide) rfl (pa_cons (pe_slice (My.sl_tupAK (K := K) rfl) (pv 0) (po_some pe_int) po_none) pa_nil))))))
  pss_nil)
  (pss_cons (ps_if (pt_cmpR op_eq (pv 1) pe_str (nomark _))
  (pss_one (ps_ret (pe_and (pe_cmpR op_eq (pe_callB (My.len_seqK (K := K) rfl) (by rfl) T.len (by decide +kernel) (pa_cons (pv 0) pa_nil)) pe_int (nomark _)) (pe_and (C8.pe_c c_is_integer_within hr (by decide) rfl (pa_cons (pe_ix (My.ix_tupK (K := K) rfl) (pv 0) pe_int (fun _ _ => rfl)) (pa_cons pe_int (pa_cons (pe_glob (v := .int 1000000000) rfl g_MOST_PARCEL ⟨_, rfl⟩) pa_nil)))) (pe_one (C8.pe_c c_are_truths hr (by decide) rfl (pa_cons (pe_slice (My.sl_tupAK (K := K) rfl) (pv 0) (po_some pe_int) po_none) pa_nil)))))))
  pss_nil)
  (pss_one (ps_ret (pe_and (pe_cmpR op_eq (pe_callB (My.len_seqK (K := K) rfl) (by rfl) T.len (by decide +kernel) (pa_cons (pv 0) pa_nil)) pe_int (nomark _)) (pe_one (pe_cmpR (My.in_seqK (K := K) rfl) (pv 1) (pe_glob (v := .ref (He.ga K "SINGLE_WORDS")) rfl T.g_SINGLE_WORDS rfl) (by rfl)))))))))))), ?_⟩
    have len : ∀ k : Int, decide (V.int ((d.vs.length : Nat) : Int) = V.int k) = decide ((d.vs.length : Int) = k) := fun k => decide_eq_decide.mpr ⟨fun z => V.int.inj z, fun z => congrArg V.int z⟩
    have w0 : atI d.vs 0 = some (.str d.w) := by cases d <;> rfl
    have l0 : decide (V.int ((d.vs.length : Nat) : Int) = V.int 0) = false := by rw [len]; cases d <;> rfl
    refine ⟨_, rfl, _, _, _, _, _, rfl, .ty "tuple", tyx_tup hS, L2.kit_ty (by decide +kernel), true, rfl, ?_⟩
    refine ⟨_, rfl, a, _, rfl, .inr hS, rfl, _, rfl, ?_⟩
    rw [l0]
    refine ⟨_, rfl, a, _, _, _, rfl, rfl, hS, w0, _, _, _, _, _, rfl, .ty "str", .base (.str d.w), L2.kit_ty (by decide +kernel), true, rfl, ?_⟩
    refine ⟨_, rfl, a, _, _, _, rfl, rfl, hS, w0, ?_⟩
    refine ⟨_, rfl, rfl, _, rfl, ?_⟩
    cases d with
    | bring l s =>
      refine ⟨_, rfl, a, _, rfl, .inr hS, rfl, _, rfl, ?_⟩
      refine ⟨_, rfl, 1, rfl, a, _, rfl, hS, fun z => absurd (show HT.sIx 3 0 (some 1) = 0 from z.1) (by decide), fun _ p hp => ?_⟩
      exact ⟨p, [l, s], rfl, SqT.of upd_same, (by show 2 ≤ 100; decide), fun H' s' => q _ ((same_new hp).trans s')⟩
    | code p t s =>
      refine ⟨_, rfl, rfl, _, rfl, ?_⟩
      refine ⟨_, rfl, a, _, rfl, .inr hS, rfl, _, rfl, ?_⟩
      refine ⟨_, rfl, a, _, 1, _, rfl, rfl, hS, rfl, p, 1, 1000000000, rfl, true, ?_, ?_⟩
      · rw [decide_eq_true hok.1, decide_eq_true hok.2]
        rfl
      refine ⟨_, rfl, 2, rfl, a, _, rfl, hS, fun z => absurd (show HT.sIx 4 0 (some 2) = 0 from z.1) (by decide), fun _ p2 hp => ?_⟩
      exact ⟨p2, [t, s], rfl, SqT.of upd_same, (by show 2 ≤ 100; decide), fun H' s' => q _ ((same_new hp).trans s')⟩
    | pass =>
      refine ⟨_, rfl, rfl, _, rfl, ?_⟩
      refine ⟨_, rfl, a, _, rfl, .inr hS, rfl, _, rfl, ?_⟩
      exact ⟨_, rfl, _, _, rfl, .inr (T.tup_SINGLE_WORDS _), rfl, rfl, q _ (Same.refl _)⟩
    | day =>
      refine ⟨_, rfl, rfl, _, rfl, ?_⟩
      refine ⟨_, rfl, a, _, rfl, .inr hS, rfl, _, rfl, ?_⟩
      exact ⟨_, rfl, _, _, rfl, .inr (T.tup_SINGLE_WORDS _), rfl, rfl, q _ (Same.refl _)⟩
    | power =>
      refine ⟨_, rfl, rfl, _, rfl, ?_⟩
      refine ⟨_, rfl, a, _, rfl, .inr hS, rfl, _, rfl, ?_⟩
      exact ⟨_, rfl, _, _, rfl, .inr (T.tup_SINGLE_WORDS _), rfl, rfl, q _ (Same.refl _)⟩
theorem c_is_deed (T : Txt K mg) : C8.Cal P w K mg base 3 "is_deed" (sp_is_deed K) [] := by
  obtain ⟨fd, F⟩ := T.f_is_deed
  exact ⟨_, fd, _, _, ok_is_deed T F, T.g_is_deed, F.kp, F.bindsN (fun _ _ _ _ _ _ us hl => match us, hl with | [_], _ => rfl), .nil⟩
def DeedsAt (K : PySem.W.Frag) (H : Hp) (xs : List V) (ds : List Deed) : Prop := Paired (DeedAt K H) xs ds
theorem DeedsAt.same {K : PySem.W.Frag} {H H' : Hp} {xs : List V} {ds : List Deed} (s : Same H H') (h : DeedsAt K H xs ds) : DeedsAt K H' xs ds :=
  paired_map (fun v d _ hd => by
    obtain ⟨a, e, h2⟩ := hd
    exact ⟨a, e, same_tup s h2⟩) h
theorem paired_at {α β : Type} {F : α → β → Prop} : ∀ {l : List α} {m : List β} {i : Nat} {a : α}, Paired F l m → l[i]? = some a → ∃ b, m[i]? = some b ∧ F a b
  | _, _, _, _, .nil, e => by simp at e
  | _, _, 0, _, .cons r _, e => by simp at e; subst e; exact ⟨_, rfl, r⟩
  | _, _, i + 1, _, .cons _ t, e => by
    obtain ⟨a, h1, h2⟩ := paired_at t (by simpa using e)
    exact ⟨a, by simpa using h1, h2⟩
def sp_check_are_deeds (K : PySem.W.Frag) : Sp := fun vs H Q _ => ∃ (a : Addr) (xs : List V) (ds : List Deed), vs = [.ref a] ∧ SqL K H a xs ∧ DeedsAt K H xs ds ∧ (∀ d ∈ ds, d.Ok) ∧ ∀ H', Same H H' → Q .non H'
set_option maxHeartbeats 2000000 in
theorem ok_check_are_deeds (T : Txt K mg) {fd : FuncData} (F : FunD K d_check_are_deeds.name d_check_are_deeds.qual d_check_are_deeds.params d_check_are_deeds.body d_check_are_deeds.scope (d_check_are_deeds.dvs K) (d_check_are_deeds.kws K) (He.fAd K d_check_are_deeds.at_) fd) : FnOk P w K mg base C8.CX0 4 (He.fAd K d_check_are_deeds.at_) fd ["deeds"] (sp_check_are_deeds K) := by
  have c_is_deed := c_is_deed (P := P) (w := w) (base := base) T
  refine F.ok sc_check_are_deeds (fun vs H Q E h => ?_) (fun cdv A outer s H vs Q E hr h => ?_)
  · obtain ⟨a, xs, ds, rfl, _⟩ := h
    rfl
  · have hu := L2.hu_of hr
    obtain ⟨a, xs, ds, rfl, hS, hD, hok, q⟩ := h
    refine ⟨_, (PSs.nox ((pss_cons (ps_if (pt_not (pt_val (pe_callB (My.isiK (K := K) rfl) (by rfl) T.isinstance (by decide +kernel) (pa_cons (pv 0) (pa_cons (pe_bltn (v := .ty "list") (u := .type "list") rfl T.list (by decide +kernel) rfl) pa_nil)))))
  (pss_one ps_never)
  pss_nil)
  (pss_one (ps_for PassesOwn.never rfl (pi_enum (by rfl) T.enumerate (pa_cons (pv 0) pa_nil)) (My.pg_tupK (K := K) (n := 2) rfl rfl (pgs_cons (pg_name (i := 1) sc_check_are_deeds.nd rfl (by first | exact Or.inl rfl | exact Or.inr rfl)) (pgs_cons (pg_name (i := 2) sc_check_are_deeds.nd rfl (by first | exact Or.inl rfl | exact Or.inr rfl)) pgs_nil)))
  (pss_one (ps_if (pt_not (pt_val (C8.pe_c c_is_deed hr (by decide) rfl (pa_cons (pv 2) pa_nil))))
  (pss_one ps_never)
  pss_nil))))))), ?_⟩
    refine ⟨_, rfl, _, _, _, _, _, rfl, .ty "list", tyx_lst hS, L2.kit_ty (by decide +kernel), true, rfl, ?_⟩
    refine ⟨_, rfl, a, xs, rfl, hS, ?_⟩
    refine for_it (walk_enum (xs := xs)) (fun i σ H' => ∃ u v, σ = [some (.ref a), u, v] ∧ Same H H') ⟨_, _, rfl, Same.refl _⟩ (fun i σ H' _ ⟨_, _, _, s⟩ => s.seq hS) ?_ ?_
    · rintro i x σ H2 H3 hi ⟨u, v, rfl, s2⟩ ⟨t, x1, y, rfl, ht, rfl, e1, hy⟩
      cases e1
      obtain ⟨d, hd, hat⟩ := paired_at hD hy
      have s3 := s2.trans (same_new (o := .tup [.int (i : Nat), y]) ht)
      refine ⟨t, _, rfl, SqT.of upd_same, rfl, _, _, rfl, _, _, rfl, rfl, ?_⟩
      obtain ⟨b, rfl, hb⟩ := hat
      refine ⟨_, rfl, _, d, rfl, ⟨b, rfl, same_tup s3 hb⟩, hok d (List.mem_of_getElem? hd), fun H4 s4 => ?_⟩
      exact ⟨true, rfl, _, _, rfl, s3.trans s4⟩
    · rintro σ H2 ⟨u, v, rfl, s2⟩
      exact q _ s2
theorem c_check_are_deeds (T : Txt K mg) : C8.Cal P w K mg base 4 "check_are_deeds" (sp_check_are_deeds K) [] := by
  obtain ⟨fd, F⟩ := T.f_check_are_deeds
  exact ⟨_, fd, _, _, ok_check_are_deeds T F, T.g_check_are_deeds, F.kp, F.bindsN (fun _ _ _ _ _ _ us hl => match us, hl with | [_], _ => rfl), .nil⟩
def sp_check_playable (K : PySem.W.Frag) : Sp := fun vs H Q _ => ∃ (a : Addr) (xs : List V) (ds : List Deed), vs = [.ref a] ∧ SqL K H a xs ∧ DeedsAt K H xs ds ∧ Playable ds ∧ ∀ H', Same H H' → Q .non H'
set_option maxHeartbeats 2000000 in
theorem ok_check_playable (T : Txt K mg) {fd : FuncData} (F : FunD K d_check_playable.name d_check_playable.qual d_check_playable.params d_check_playable.body d_check_playable.scope (d_check_playable.dvs K) (d_check_playable.kws K) (He.fAd K d_check_playable.at_) fd) : FnOk P w K mg base C8.CX0 5 (He.fAd K d_check_playable.at_) fd ["deeds"] (sp_check_playable K) := by
  have c_check_are_deeds := c_check_are_deeds (P := P) (w := w) (base := base) T
  refine F.ok sc_check_playable (fun vs H Q E h => ?_) (fun cdv A outer s H vs Q E hr h => ?_)
  · obtain ⟨a, xs, ds, rfl, _⟩ := h
    rfl
  · have hu := L2.hu_of hr
    obtain ⟨a, xs, ds, rfl, hS, hD, hok, q⟩ := h
    refine ⟨_, (PSs.nox ((pss_cons (ps_expr (C8.pe_c c_check_are_deeds hr (by decide) rfl (pa_cons (pv 0) pa_nil)))
  (pss_cons (ps_set (i := 1) sc_check_playable.nd rfl (by first | exact Or.inl rfl | exact Or.inr rfl) pe_int)
  (pss_one (ps_for PassesOwn.never rfl (pi_enum (by rfl) T.enumerate (pa_cons (pv 0) pa_nil)) (My.pg_tupK (K := K) (n := 2) rfl rfl (pgs_cons (pg_name (i := 2) sc_check_playable.nd rfl (by first | exact Or.inl rfl | exact Or.inr rfl)) (pgs_cons (pg_name (i := 3) sc_check_playable.nd rfl (by first | exact Or.inl rfl | exact Or.inr rfl)) pgs_nil)))
  (pss_one (ps_if (pt_cmpR op_eq (pe_ix (My.ix_tupK (K := K) rfl) (pv 3) pe_int (fun _ _ => rfl)) pe_str (nomark _))
  (pss_one (ps_aug (i := 1) sc_check_playable.nd rfl (by first | exact Or.inl rfl | exact Or.inr rfl) pe_int ip_add))
  (pss_one (ps_if (PW.pt (pw_and (pt_cmpR op_eq (pe_ix (My.ix_tupK (K := K) rfl) (pv 3) pe_int (fun _ _ => rfl)) pe_str (nomark _)) (pw_and1 (pt_cmpR op_gt (pe_ix (My.ix_tupK (K := K) rfl) (pv 3) pe_int (fun _ _ => rfl)) (pv 1) (nomark _)))))
  (pss_one ps_never)
  pss_nil)))))))))), ?_⟩
    refine ⟨_, rfl, a, xs, ds, rfl, hS, hD, hok.ok, fun H1 s1 => ?_⟩
    refine ⟨_, rfl, a, xs, rfl, s1.seq hS, ?_⟩
    refine for_it (walk_enum (xs := xs)) (fun i σ H' => ∃ u v, σ = [some (.ref a), some (.int (brs (ds.take i) : Nat)), u, v] ∧ Same H H') ⟨_, _, rfl, s1⟩ (fun i σ H' _ ⟨_, _, _, s⟩ => s.seq hS) ?_ ?_
    · rintro i x σ H2 H3 hi ⟨u, v, rfl, s2⟩ ⟨t, x1, y, rfl, ht, rfl, e1, hy⟩
      cases e1
      obtain ⟨d, hd, hat⟩ := paired_at hD hy
      have s3 := s2.trans (same_new (o := .tup [.int (i : Nat), y]) ht)
      refine ⟨t, _, rfl, SqT.of upd_same, rfl, _, _, rfl, _, _, rfl, rfl, ?_⟩
      obtain ⟨b, rfl, hb⟩ := hat
      have hb3 := same_tup s3 hb
      have w0 : atI d.vs 0 = some (.str d.w) := by cases d <;> rfl
      refine ⟨_, rfl, b, _, _, _, rfl, rfl, hb3, w0, rfl, _, rfl, ?_⟩
      have more := brs_more hd
      cases d with
      | bring l s =>
        refine ⟨_, rfl, _, _, rfl, rfl, some (.int (i : Nat)), some (.ref b), ?_, s3⟩
        rw [more]
        rfl
      | code p t1 s =>
        refine ⟨_, rfl, b, _, _, _, rfl, rfl, hb3, w0, rfl, _, rfl, ?_⟩
        refine ⟨_, rfl, b, _, 1, _, rfl, rfl, hb3, rfl, _, rfl, _, _, rfl, rfl, _, rfl, ?_⟩
        have hle := (hok.2 i p t1 s hd).2
        rw [show decide (((brs (ds.take i) : Nat) : Int) < p) = false from decide_eq_false (by omega)]
        refine ⟨some (.int (i : Nat)), some (.ref b), ?_, s3⟩
        rw [more]
        rfl
      | pass =>
        refine ⟨_, rfl, b, _, _, _, rfl, rfl, hb3, w0, rfl, _, rfl, ?_⟩
        exact ⟨some (.int (i : Nat)), some (.ref b), by rw [more] <;> rfl, s3⟩
      | day =>
        refine ⟨_, rfl, b, _, _, _, rfl, rfl, hb3, w0, rfl, _, rfl, ?_⟩
        exact ⟨some (.int (i : Nat)), some (.ref b), by rw [more] <;> rfl, s3⟩
      | power =>
        refine ⟨_, rfl, b, _, _, _, rfl, rfl, hb3, w0, rfl, _, rfl, ?_⟩
        exact ⟨some (.int (i : Nat)), some (.ref b), by rw [more] <;> rfl, s3⟩
    · rintro σ H2 ⟨u, v, rfl, s2⟩
      exact q _ s2
theorem c_check_playable (T : Txt K mg) : C8.Cal P w K mg base 5 "check_playable" (sp_check_playable K) [] := by
  obtain ⟨fd, F⟩ := T.f_check_playable
  exact ⟨_, fd, _, _, ok_check_playable T F, T.g_check_playable, F.kp, F.bindsN (fun _ _ _ _ _ _ us hl => match us, hl with | [_], _ => rfl), .nil⟩
end
end K29

namespace K29
open PySem PySem.Spec PyProof.Rows L2 My
/-! ### the box: what it is, what a deed does to it -/
structure BoxS where
  ajar : Bool
  inside : List Int
  tf : Str
  valid : List Int
  age : Option Int
  last : Option Int
  sent : List Int
  served : List Int
structure ToldS where
  letters : List Int
  opened : Bool
  got : List Int
  wrongs : List Str
  moments : List Str
def oV : Option Int → V
  | none => .non
  | some i => .int i
def kvT (l : List Int) : List (Key × V) := l.map fun i => (Sum.inl i, V.bl true)
def bxf (S : BoxS) (li dv ds dr : Addr) : List (Str × V) :=
  [("ajar", .bl S.ajar), ("inside", .ref li), ("taken_for", .str S.tf), ("valid", .ref dv), ("age", oV S.age), ("last", oV S.last), ("sent", .ref ds), ("served", .ref dr)]
def tdf (T : ToldS) (yb : Bool) (ll lg lw lm : Addr) : List (Str × V) := [("letters", .ref ll), ("opened", .bl T.opened), ("got", .ref lg), ("lays", .bl yb), ("wrongs", .ref lw), ("moments", .ref lm)]
theorem nd_ne {α : Type} {l : List α} {a b : α} (h : l.Nodup) {i j : Nat} (hi : l[i]? = some a) (hj : l[j]? = some b) (ne : i ≠ j) : a ≠ b := by
  intro e
  subst e
  exact ne (L2.nd_ix h hi hj)
theorem nd_put {α : Type} {l : List α} {p : α} {i : Nat} (h : l.Nodup) (hp : p ∉ l) : (l.set i p).Nodup := by
  induction l generalizing i with
  | nil => simp
  | cons a r ih =>
    rw [List.nodup_cons] at h
    simp only [List.mem_cons, not_or] at hp
    cases i with
    | zero =>
      rw [List.set_cons_zero, List.nodup_cons]
      exact ⟨hp.2, h.2⟩
    | succ i =>
      rw [List.set_cons_succ, List.nodup_cons]
      refine ⟨fun hm => ?_, ih h.2 hp.2⟩
      rcases List.mem_or_eq_of_mem_set hm with z | z
      · exact h.1 z
      · exact hp.1 z.symm
structure BT (K : PySem.W.Frag) (H0 H : Hp) (b dx li dv ds dr : Addr) (S : BoxS) (t dt : Addr) (yb : Bool) (ll lg lw lm : Addr) (T : ToldS) : Prop where
  same : Same H0 H
  nd : [b, li, dv, ds, dr, t, ll, lg, lw, lm].Nodup
  new : ∀ a ∈ [b, li, dv, ds, dr, t, ll, lg, lw, lm], H0 a = none
  hb : H b = some (.ins (He.ga K "Box") dx (bxf S li dv ds dr))
  hli : H li = some (.lst (S.inside.map V.int))
  hdv : H dv = some (.dK (kvT S.valid))
  hds : H ds = some (.dK (kvT S.sent))
  hdr : H dr = some (.dK (kvT S.served))
  ht : H t = some (.ins (He.ga K "Told") dt (tdf T yb ll lg lw lm))
  hll : H ll = some (.lst (T.letters.map V.int))
  hlg : H lg = some (.lst (T.got.map V.int))
  hlw : H lw = some (.lst (T.wrongs.map V.str))
  hlm : H lm = some (.lst (T.moments.map V.str))
section
variable {K : PySem.W.Frag} {H0 H : Hp} {b dx li dv ds dr : Addr} {S S' : BoxS} {t dt : Addr} {yb : Bool} {ll lg lw lm : Addr} {T T' : ToldS}
theorem BT.set_b (h : BT K H0 H b dx li dv ds dr S t dt yb ll lg lw lm T) (e1 : S'.inside = S.inside) (e2 : S'.valid = S.valid) (e3 : S'.sent = S.sent) (e4 : S'.served = S.served) : BT K H0 (upd H b (.ins (He.ga K "Box") dx (bxf S' li dv ds dr))) b dx li dv ds dr S' t dt yb ll lg lw lm T where
  same := same_upd h.same (h.new b (by simp))
  nd := h.nd
  new := h.new
  hb := upd_same
  hli := by rw [upd_ne (nd_ne h.nd (i := 1) (j := 0) rfl rfl (by decide)), e1]; exact h.hli
  hdv := by rw [upd_ne (nd_ne h.nd (i := 2) (j := 0) rfl rfl (by decide)), e2]; exact h.hdv
  hds := by rw [upd_ne (nd_ne h.nd (i := 3) (j := 0) rfl rfl (by decide)), e3]; exact h.hds
  hdr := by rw [upd_ne (nd_ne h.nd (i := 4) (j := 0) rfl rfl (by decide)), e4]; exact h.hdr
  ht := by rw [upd_ne (nd_ne h.nd (i := 5) (j := 0) rfl rfl (by decide))]; exact h.ht
  hll := by rw [upd_ne (nd_ne h.nd (i := 6) (j := 0) rfl rfl (by decide))]; exact h.hll
  hlg := by rw [upd_ne (nd_ne h.nd (i := 7) (j := 0) rfl rfl (by decide))]; exact h.hlg
  hlw := by rw [upd_ne (nd_ne h.nd (i := 8) (j := 0) rfl rfl (by decide))]; exact h.hlw
  hlm := by rw [upd_ne (nd_ne h.nd (i := 9) (j := 0) rfl rfl (by decide))]; exact h.hlm
theorem BT.set_li (h : BT K H0 H b dx li dv ds dr S t dt yb ll lg lw lm T) (e : S' = { S with inside := S'.inside }) : BT K H0 (upd H li (.lst (S'.inside.map V.int))) b dx li dv ds dr S' t dt yb ll lg lw lm T where
  same := same_upd h.same (h.new li (by simp))
  nd := h.nd
  new := h.new
  hb := by rw [upd_ne (nd_ne h.nd (i := 0) (j := 1) rfl rfl (by decide)), e]; exact h.hb
  hli := upd_same
  hdv := by rw [upd_ne (nd_ne h.nd (i := 2) (j := 1) rfl rfl (by decide)), e]; exact h.hdv
  hds := by rw [upd_ne (nd_ne h.nd (i := 3) (j := 1) rfl rfl (by decide)), e]; exact h.hds
  hdr := by rw [upd_ne (nd_ne h.nd (i := 4) (j := 1) rfl rfl (by decide)), e]; exact h.hdr
  ht := by rw [upd_ne (nd_ne h.nd (i := 5) (j := 1) rfl rfl (by decide))]; exact h.ht
  hll := by rw [upd_ne (nd_ne h.nd (i := 6) (j := 1) rfl rfl (by decide))]; exact h.hll
  hlg := by rw [upd_ne (nd_ne h.nd (i := 7) (j := 1) rfl rfl (by decide))]; exact h.hlg
  hlw := by rw [upd_ne (nd_ne h.nd (i := 8) (j := 1) rfl rfl (by decide))]; exact h.hlw
  hlm := by rw [upd_ne (nd_ne h.nd (i := 9) (j := 1) rfl rfl (by decide))]; exact h.hlm
theorem BT.set_dv (h : BT K H0 H b dx li dv ds dr S t dt yb ll lg lw lm T) (e : S' = { S with valid := S'.valid }) : BT K H0 (upd H dv (.dK (kvT S'.valid))) b dx li dv ds dr S' t dt yb ll lg lw lm T where
  same := same_upd h.same (h.new dv (by simp))
  nd := h.nd
  new := h.new
  hb := by rw [upd_ne (nd_ne h.nd (i := 0) (j := 2) rfl rfl (by decide)), e]; exact h.hb
  hli := by rw [upd_ne (nd_ne h.nd (i := 1) (j := 2) rfl rfl (by decide)), e]; exact h.hli
  hdv := upd_same
  hds := by rw [upd_ne (nd_ne h.nd (i := 3) (j := 2) rfl rfl (by decide)), e]; exact h.hds
  hdr := by rw [upd_ne (nd_ne h.nd (i := 4) (j := 2) rfl rfl (by decide)), e]; exact h.hdr
  ht := by rw [upd_ne (nd_ne h.nd (i := 5) (j := 2) rfl rfl (by decide))]; exact h.ht
  hll := by rw [upd_ne (nd_ne h.nd (i := 6) (j := 2) rfl rfl (by decide))]; exact h.hll
  hlg := by rw [upd_ne (nd_ne h.nd (i := 7) (j := 2) rfl rfl (by decide))]; exact h.hlg
  hlw := by rw [upd_ne (nd_ne h.nd (i := 8) (j := 2) rfl rfl (by decide))]; exact h.hlw
  hlm := by rw [upd_ne (nd_ne h.nd (i := 9) (j := 2) rfl rfl (by decide))]; exact h.hlm
theorem BT.set_ds (h : BT K H0 H b dx li dv ds dr S t dt yb ll lg lw lm T) (e : S' = { S with sent := S'.sent }) : BT K H0 (upd H ds (.dK (kvT S'.sent))) b dx li dv ds dr S' t dt yb ll lg lw lm T where
  same := same_upd h.same (h.new ds (by simp))
  nd := h.nd
  new := h.new
  hb := by rw [upd_ne (nd_ne h.nd (i := 0) (j := 3) rfl rfl (by decide)), e]; exact h.hb
  hli := by rw [upd_ne (nd_ne h.nd (i := 1) (j := 3) rfl rfl (by decide)), e]; exact h.hli
  hdv := by rw [upd_ne (nd_ne h.nd (i := 2) (j := 3) rfl rfl (by decide)), e]; exact h.hdv
  hds := upd_same
  hdr := by rw [upd_ne (nd_ne h.nd (i := 4) (j := 3) rfl rfl (by decide)), e]; exact h.hdr
  ht := by rw [upd_ne (nd_ne h.nd (i := 5) (j := 3) rfl rfl (by decide))]; exact h.ht
  hll := by rw [upd_ne (nd_ne h.nd (i := 6) (j := 3) rfl rfl (by decide))]; exact h.hll
  hlg := by rw [upd_ne (nd_ne h.nd (i := 7) (j := 3) rfl rfl (by decide))]; exact h.hlg
  hlw := by rw [upd_ne (nd_ne h.nd (i := 8) (j := 3) rfl rfl (by decide))]; exact h.hlw
  hlm := by rw [upd_ne (nd_ne h.nd (i := 9) (j := 3) rfl rfl (by decide))]; exact h.hlm
theorem BT.set_dr (h : BT K H0 H b dx li dv ds dr S t dt yb ll lg lw lm T) (e : S' = { S with served := S'.served }) : BT K H0 (upd H dr (.dK (kvT S'.served))) b dx li dv ds dr S' t dt yb ll lg lw lm T where
  same := same_upd h.same (h.new dr (by simp))
  nd := h.nd
  new := h.new
  hb := by rw [upd_ne (nd_ne h.nd (i := 0) (j := 4) rfl rfl (by decide)), e]; exact h.hb
  hli := by rw [upd_ne (nd_ne h.nd (i := 1) (j := 4) rfl rfl (by decide)), e]; exact h.hli
  hdv := by rw [upd_ne (nd_ne h.nd (i := 2) (j := 4) rfl rfl (by decide)), e]; exact h.hdv
  hds := by rw [upd_ne (nd_ne h.nd (i := 3) (j := 4) rfl rfl (by decide)), e]; exact h.hds
  hdr := upd_same
  ht := by rw [upd_ne (nd_ne h.nd (i := 5) (j := 4) rfl rfl (by decide))]; exact h.ht
  hll := by rw [upd_ne (nd_ne h.nd (i := 6) (j := 4) rfl rfl (by decide))]; exact h.hll
  hlg := by rw [upd_ne (nd_ne h.nd (i := 7) (j := 4) rfl rfl (by decide))]; exact h.hlg
  hlw := by rw [upd_ne (nd_ne h.nd (i := 8) (j := 4) rfl rfl (by decide))]; exact h.hlw
  hlm := by rw [upd_ne (nd_ne h.nd (i := 9) (j := 4) rfl rfl (by decide))]; exact h.hlm
theorem BT.set_t (h : BT K H0 H b dx li dv ds dr S t dt yb ll lg lw lm T) (e1 : T'.letters = T.letters) (e2 : T'.got = T.got) (e3 : T'.wrongs = T.wrongs) (e4 : T'.moments = T.moments) : BT K H0 (upd H t (.ins (He.ga K "Told") dt (tdf T' yb ll lg lw lm))) b dx li dv ds dr S t dt yb ll lg lw lm T' where
  same := same_upd h.same (h.new t (by simp))
  nd := h.nd
  new := h.new
  hb := by rw [upd_ne (nd_ne h.nd (i := 0) (j := 5) rfl rfl (by decide))]; exact h.hb
  hli := by rw [upd_ne (nd_ne h.nd (i := 1) (j := 5) rfl rfl (by decide))]; exact h.hli
  hdv := by rw [upd_ne (nd_ne h.nd (i := 2) (j := 5) rfl rfl (by decide))]; exact h.hdv
  hds := by rw [upd_ne (nd_ne h.nd (i := 3) (j := 5) rfl rfl (by decide))]; exact h.hds
  hdr := by rw [upd_ne (nd_ne h.nd (i := 4) (j := 5) rfl rfl (by decide))]; exact h.hdr
  ht := upd_same
  hll := by rw [upd_ne (nd_ne h.nd (i := 6) (j := 5) rfl rfl (by decide)), e1]; exact h.hll
  hlg := by rw [upd_ne (nd_ne h.nd (i := 7) (j := 5) rfl rfl (by decide)), e2]; exact h.hlg
  hlw := by rw [upd_ne (nd_ne h.nd (i := 8) (j := 5) rfl rfl (by decide)), e3]; exact h.hlw
  hlm := by rw [upd_ne (nd_ne h.nd (i := 9) (j := 5) rfl rfl (by decide)), e4]; exact h.hlm
theorem BT.set_y (h : BT K H0 H b dx li dv ds dr S t dt yb ll lg lw lm T) (y2 : Bool) : BT K H0 (upd H t (.ins (He.ga K "Told") dt (tdf T y2 ll lg lw lm))) b dx li dv ds dr S t dt y2 ll lg lw lm T where
  same := same_upd h.same (h.new t (by simp))
  nd := h.nd
  new := h.new
  hb := by rw [upd_ne (nd_ne h.nd (i := 0) (j := 5) rfl rfl (by decide))]; exact h.hb
  hli := by rw [upd_ne (nd_ne h.nd (i := 1) (j := 5) rfl rfl (by decide))]; exact h.hli
  hdv := by rw [upd_ne (nd_ne h.nd (i := 2) (j := 5) rfl rfl (by decide))]; exact h.hdv
  hds := by rw [upd_ne (nd_ne h.nd (i := 3) (j := 5) rfl rfl (by decide))]; exact h.hds
  hdr := by rw [upd_ne (nd_ne h.nd (i := 4) (j := 5) rfl rfl (by decide))]; exact h.hdr
  ht := upd_same
  hll := by rw [upd_ne (nd_ne h.nd (i := 6) (j := 5) rfl rfl (by decide))]; exact h.hll
  hlg := by rw [upd_ne (nd_ne h.nd (i := 7) (j := 5) rfl rfl (by decide))]; exact h.hlg
  hlw := by rw [upd_ne (nd_ne h.nd (i := 8) (j := 5) rfl rfl (by decide))]; exact h.hlw
  hlm := by rw [upd_ne (nd_ne h.nd (i := 9) (j := 5) rfl rfl (by decide))]; exact h.hlm
theorem BT.set_ll (h : BT K H0 H b dx li dv ds dr S t dt yb ll lg lw lm T) (e : T' = { T with letters := T'.letters }) : BT K H0 (upd H ll (.lst (T'.letters.map V.int))) b dx li dv ds dr S t dt yb ll lg lw lm T' where
  same := same_upd h.same (h.new ll (by simp))
  nd := h.nd
  new := h.new
  hb := by rw [upd_ne (nd_ne h.nd (i := 0) (j := 6) rfl rfl (by decide))]; exact h.hb
  hli := by rw [upd_ne (nd_ne h.nd (i := 1) (j := 6) rfl rfl (by decide))]; exact h.hli
  hdv := by rw [upd_ne (nd_ne h.nd (i := 2) (j := 6) rfl rfl (by decide))]; exact h.hdv
  hds := by rw [upd_ne (nd_ne h.nd (i := 3) (j := 6) rfl rfl (by decide))]; exact h.hds
  hdr := by rw [upd_ne (nd_ne h.nd (i := 4) (j := 6) rfl rfl (by decide))]; exact h.hdr
  ht := by rw [upd_ne (nd_ne h.nd (i := 5) (j := 6) rfl rfl (by decide)), e]; exact h.ht
  hll := upd_same
  hlg := by rw [upd_ne (nd_ne h.nd (i := 7) (j := 6) rfl rfl (by decide)), e]; exact h.hlg
  hlw := by rw [upd_ne (nd_ne h.nd (i := 8) (j := 6) rfl rfl (by decide)), e]; exact h.hlw
  hlm := by rw [upd_ne (nd_ne h.nd (i := 9) (j := 6) rfl rfl (by decide)), e]; exact h.hlm
theorem BT.set_lg (h : BT K H0 H b dx li dv ds dr S t dt yb ll lg lw lm T) (e : T' = { T with got := T'.got }) : BT K H0 (upd H lg (.lst (T'.got.map V.int))) b dx li dv ds dr S t dt yb ll lg lw lm T' where
  same := same_upd h.same (h.new lg (by simp))
  nd := h.nd
  new := h.new
  hb := by rw [upd_ne (nd_ne h.nd (i := 0) (j := 7) rfl rfl (by decide))]; exact h.hb
  hli := by rw [upd_ne (nd_ne h.nd (i := 1) (j := 7) rfl rfl (by decide))]; exact h.hli
  hdv := by rw [upd_ne (nd_ne h.nd (i := 2) (j := 7) rfl rfl (by decide))]; exact h.hdv
  hds := by rw [upd_ne (nd_ne h.nd (i := 3) (j := 7) rfl rfl (by decide))]; exact h.hds
  hdr := by rw [upd_ne (nd_ne h.nd (i := 4) (j := 7) rfl rfl (by decide))]; exact h.hdr
  ht := by rw [upd_ne (nd_ne h.nd (i := 5) (j := 7) rfl rfl (by decide)), e]; exact h.ht
  hll := by rw [upd_ne (nd_ne h.nd (i := 6) (j := 7) rfl rfl (by decide)), e]; exact h.hll
  hlg := upd_same
  hlw := by rw [upd_ne (nd_ne h.nd (i := 8) (j := 7) rfl rfl (by decide)), e]; exact h.hlw
  hlm := by rw [upd_ne (nd_ne h.nd (i := 9) (j := 7) rfl rfl (by decide)), e]; exact h.hlm
theorem BT.set_lw (h : BT K H0 H b dx li dv ds dr S t dt yb ll lg lw lm T) (e : T' = { T with wrongs := T'.wrongs }) : BT K H0 (upd H lw (.lst (T'.wrongs.map V.str))) b dx li dv ds dr S t dt yb ll lg lw lm T' where
  same := same_upd h.same (h.new lw (by simp))
  nd := h.nd
  new := h.new
  hb := by rw [upd_ne (nd_ne h.nd (i := 0) (j := 8) rfl rfl (by decide))]; exact h.hb
  hli := by rw [upd_ne (nd_ne h.nd (i := 1) (j := 8) rfl rfl (by decide))]; exact h.hli
  hdv := by rw [upd_ne (nd_ne h.nd (i := 2) (j := 8) rfl rfl (by decide))]; exact h.hdv
  hds := by rw [upd_ne (nd_ne h.nd (i := 3) (j := 8) rfl rfl (by decide))]; exact h.hds
  hdr := by rw [upd_ne (nd_ne h.nd (i := 4) (j := 8) rfl rfl (by decide))]; exact h.hdr
  ht := by rw [upd_ne (nd_ne h.nd (i := 5) (j := 8) rfl rfl (by decide)), e]; exact h.ht
  hll := by rw [upd_ne (nd_ne h.nd (i := 6) (j := 8) rfl rfl (by decide)), e]; exact h.hll
  hlg := by rw [upd_ne (nd_ne h.nd (i := 7) (j := 8) rfl rfl (by decide)), e]; exact h.hlg
  hlw := upd_same
  hlm := by rw [upd_ne (nd_ne h.nd (i := 9) (j := 8) rfl rfl (by decide)), e]; exact h.hlm
theorem BT.set_lm (h : BT K H0 H b dx li dv ds dr S t dt yb ll lg lw lm T) (e : T' = { T with moments := T'.moments }) : BT K H0 (upd H lm (.lst (T'.moments.map V.str))) b dx li dv ds dr S t dt yb ll lg lw lm T' where
  same := same_upd h.same (h.new lm (by simp))
  nd := h.nd
  new := h.new
  hb := by rw [upd_ne (nd_ne h.nd (i := 0) (j := 9) rfl rfl (by decide))]; exact h.hb
  hli := by rw [upd_ne (nd_ne h.nd (i := 1) (j := 9) rfl rfl (by decide))]; exact h.hli
  hdv := by rw [upd_ne (nd_ne h.nd (i := 2) (j := 9) rfl rfl (by decide))]; exact h.hdv
  hds := by rw [upd_ne (nd_ne h.nd (i := 3) (j := 9) rfl rfl (by decide))]; exact h.hds
  hdr := by rw [upd_ne (nd_ne h.nd (i := 4) (j := 9) rfl rfl (by decide))]; exact h.hdr
  ht := by rw [upd_ne (nd_ne h.nd (i := 5) (j := 9) rfl rfl (by decide)), e]; exact h.ht
  hll := by rw [upd_ne (nd_ne h.nd (i := 6) (j := 9) rfl rfl (by decide)), e]; exact h.hll
  hlg := by rw [upd_ne (nd_ne h.nd (i := 7) (j := 9) rfl rfl (by decide)), e]; exact h.hlg
  hlw := by rw [upd_ne (nd_ne h.nd (i := 8) (j := 9) rfl rfl (by decide)), e]; exact h.hlw
  hlm := upd_same
theorem BT.new_dv (h : BT K H0 H b dx li dv ds dr S t dt yb ll lg lw lm T) {p : Addr} (hp : H p = none) : BT K H0 (upd (upd H p (.dK [])) b (.ins (He.ga K "Box") dx (bxf { S with valid := [] } li p ds dr))) b dx li p ds dr { S with valid := [] } t dt yb ll lg lw lm T := by
  have hn : p ∉ [b, li, dv, ds, dr, t, ll, lg, lw, lm] := by
    intro z
    simp only [List.mem_cons, List.not_mem_nil, or_false] at z
    rcases z with rfl | rfl | rfl | rfl | rfl | rfl | rfl | rfl | rfl | rfl
    · exact absurd (h.hb.symm.trans hp) (by intro q; cases q)
    · exact absurd (h.hli.symm.trans hp) (by intro q; cases q)
    · exact absurd (h.hdv.symm.trans hp) (by intro q; cases q)
    · exact absurd (h.hds.symm.trans hp) (by intro q; cases q)
    · exact absurd (h.hdr.symm.trans hp) (by intro q; cases q)
    · exact absurd (h.ht.symm.trans hp) (by intro q; cases q)
    · exact absurd (h.hll.symm.trans hp) (by intro q; cases q)
    · exact absurd (h.hlg.symm.trans hp) (by intro q; cases q)
    · exact absurd (h.hlw.symm.trans hp) (by intro q; cases q)
    · exact absurd (h.hlm.symm.trans hp) (by intro q; cases q)
  have nd2 : [b, li, p, ds, dr, t, ll, lg, lw, lm].Nodup := nd_put (i := 2) h.nd hn
  have hpb : p ≠ b := fun z => hn (by rw [z]; simp)
  exact {
    same := same_upd (same_upd h.same (h.same.free hp)) (h.new b (by simp))
    nd := nd2
    new := fun a ha => by
      simp only [List.mem_cons, List.not_mem_nil, or_false] at ha
      rcases ha with rfl | rfl | rfl | rfl | rfl | rfl | rfl | rfl | rfl | rfl
      · exact h.new _ (by simp)
      · exact h.new _ (by simp)
      · exact h.same.free hp
      · exact h.new _ (by simp)
      · exact h.new _ (by simp)
      · exact h.new _ (by simp)
      · exact h.new _ (by simp)
      · exact h.new _ (by simp)
      · exact h.new _ (by simp)
      · exact h.new _ (by simp)
    hb := upd_same
    hli := by rw [upd_ne (nd_ne h.nd (i := 1) (j := 0) rfl rfl (by decide)), upd_ne (fun z => hn (by rw [← z]; simp))]; exact h.hli
    hdv := by rw [upd_ne hpb]; exact upd_same
    hds := by rw [upd_ne (nd_ne h.nd (i := 3) (j := 0) rfl rfl (by decide)), upd_ne (fun z => hn (by rw [← z]; simp))]; exact h.hds
    hdr := by rw [upd_ne (nd_ne h.nd (i := 4) (j := 0) rfl rfl (by decide)), upd_ne (fun z => hn (by rw [← z]; simp))]; exact h.hdr
    ht := by rw [upd_ne (nd_ne h.nd (i := 5) (j := 0) rfl rfl (by decide)), upd_ne (fun z => hn (by rw [← z]; simp))]; exact h.ht
    hll := by rw [upd_ne (nd_ne h.nd (i := 6) (j := 0) rfl rfl (by decide)), upd_ne (fun z => hn (by rw [← z]; simp))]; exact h.hll
    hlg := by rw [upd_ne (nd_ne h.nd (i := 7) (j := 0) rfl rfl (by decide)), upd_ne (fun z => hn (by rw [← z]; simp))]; exact h.hlg
    hlw := by rw [upd_ne (nd_ne h.nd (i := 8) (j := 0) rfl rfl (by decide)), upd_ne (fun z => hn (by rw [← z]; simp))]; exact h.hlw
    hlm := by rw [upd_ne (nd_ne h.nd (i := 9) (j := 0) rfl rfl (by decide)), upd_ne (fun z => hn (by rw [← z]; simp))]; exact h.hlm
  }
theorem BT.hand (h : BT K H0 H b dx li dv ds dr S t dt yb ll lg lw lm T) {p : Addr} (hp : H p = none) : BT K H0 (upd (upd (upd H t (.ins (He.ga K "Told") dt (tdf T yb ll li lw lm))) p (.lst [])) b (.ins (He.ga K "Box") dx (bxf S p dv ds dr))) b dx p dv ds dr { S with inside := [] } t dt yb ll li lw lm { T with got := S.inside } := by
  have hn : p ∉ [b, li, dv, ds, dr, t, ll, lg, lw, lm] := by
    intro z
    simp only [List.mem_cons, List.not_mem_nil, or_false] at z
    rcases z with rfl | rfl | rfl | rfl | rfl | rfl | rfl | rfl | rfl | rfl
    · exact absurd (h.hb.symm.trans hp) (by intro q; cases q)
    · exact absurd (h.hli.symm.trans hp) (by intro q; cases q)
    · exact absurd (h.hdv.symm.trans hp) (by intro q; cases q)
    · exact absurd (h.hds.symm.trans hp) (by intro q; cases q)
    · exact absurd (h.hdr.symm.trans hp) (by intro q; cases q)
    · exact absurd (h.ht.symm.trans hp) (by intro q; cases q)
    · exact absurd (h.hll.symm.trans hp) (by intro q; cases q)
    · exact absurd (h.hlg.symm.trans hp) (by intro q; cases q)
    · exact absurd (h.hlw.symm.trans hp) (by intro q; cases q)
    · exact absurd (h.hlm.symm.trans hp) (by intro q; cases q)
  have nd1 : [b, p, dv, ds, dr, t, ll, lg, lw, lm].Nodup := nd_put (i := 1) h.nd hn
  have nd2 : [b, p, dv, ds, dr, t, ll, li, lw, lm].Nodup := nd_put (i := 7) nd1 (fun z => by
    simp only [List.mem_cons, List.not_mem_nil, or_false] at z
    rcases z with z | z | z | z | z | z | z | z | z | z
    · exact (nd_ne h.nd (i := 1) (j := 0) rfl rfl (by decide)) z
    · exact hn (by rw [← z]; simp)
    · exact (nd_ne h.nd (i := 1) (j := 2) rfl rfl (by decide)) z
    · exact (nd_ne h.nd (i := 1) (j := 3) rfl rfl (by decide)) z
    · exact (nd_ne h.nd (i := 1) (j := 4) rfl rfl (by decide)) z
    · exact (nd_ne h.nd (i := 1) (j := 5) rfl rfl (by decide)) z
    · exact (nd_ne h.nd (i := 1) (j := 6) rfl rfl (by decide)) z
    · exact (nd_ne h.nd (i := 1) (j := 7) rfl rfl (by decide)) z
    · exact (nd_ne h.nd (i := 1) (j := 8) rfl rfl (by decide)) z
    · exact (nd_ne h.nd (i := 1) (j := 9) rfl rfl (by decide)) z)
  have hpb : p ≠ b := fun z => hn (by rw [z]; simp)
  exact {
    same := same_upd (same_upd (same_upd h.same (h.new t (by simp))) (h.same.free hp)) (h.new b (by simp))
    nd := nd2
    new := fun a ha => by
      simp only [List.mem_cons, List.not_mem_nil, or_false] at ha
      rcases ha with rfl | rfl | rfl | rfl | rfl | rfl | rfl | rfl | rfl | rfl
      · exact h.new _ (by simp)
      · exact h.same.free hp
      · exact h.new _ (by simp)
      · exact h.new _ (by simp)
      · exact h.new _ (by simp)
      · exact h.new _ (by simp)
      · exact h.new _ (by simp)
      · exact h.new _ (by simp)
      · exact h.new _ (by simp)
      · exact h.new _ (by simp)
    hb := upd_same
    hli := by rw [upd_ne hpb]; exact upd_same
    hdv := by rw [upd_ne (nd_ne h.nd (i := 2) (j := 0) rfl rfl (by decide)), upd_ne (fun z => hn (by rw [← z]; simp)), upd_ne (nd_ne h.nd (i := 2) (j := 5) rfl rfl (by decide))]; exact h.hdv
    hds := by rw [upd_ne (nd_ne h.nd (i := 3) (j := 0) rfl rfl (by decide)), upd_ne (fun z => hn (by rw [← z]; simp)), upd_ne (nd_ne h.nd (i := 3) (j := 5) rfl rfl (by decide))]; exact h.hds
    hdr := by rw [upd_ne (nd_ne h.nd (i := 4) (j := 0) rfl rfl (by decide)), upd_ne (fun z => hn (by rw [← z]; simp)), upd_ne (nd_ne h.nd (i := 4) (j := 5) rfl rfl (by decide))]; exact h.hdr
    hll := by rw [upd_ne (nd_ne h.nd (i := 6) (j := 0) rfl rfl (by decide)), upd_ne (fun z => hn (by rw [← z]; simp)), upd_ne (nd_ne h.nd (i := 6) (j := 5) rfl rfl (by decide))]; exact h.hll
    hlw := by rw [upd_ne (nd_ne h.nd (i := 8) (j := 0) rfl rfl (by decide)), upd_ne (fun z => hn (by rw [← z]; simp)), upd_ne (nd_ne h.nd (i := 8) (j := 5) rfl rfl (by decide))]; exact h.hlw
    hlm := by rw [upd_ne (nd_ne h.nd (i := 9) (j := 0) rfl rfl (by decide)), upd_ne (fun z => hn (by rw [← z]; simp)), upd_ne (nd_ne h.nd (i := 9) (j := 5) rfl rfl (by decide))]; exact h.hlm
    hlg := by rw [upd_ne (nd_ne h.nd (i := 1) (j := 0) rfl rfl (by decide)), upd_ne (fun z => hn (by rw [← z]; simp)), upd_ne (nd_ne h.nd (i := 1) (j := 5) rfl rfl (by decide))]; exact h.hli
    ht := by rw [upd_ne (nd_ne h.nd (i := 5) (j := 0) rfl rfl (by decide)), upd_ne (fun z => hn (by rw [← z]; simp))]; exact upd_same
  }
end
end K29

namespace K29
open PySem PySem.Spec PyProof.Rows L2 My
/-! ### what the box does, as a function -/
def ins (p : Int) (l : List Int) : List Int := if p ∈ l then l else l ++ [p]
theorem ins_len (p : Int) (l : List Int) : (ins p l).length ≤ l.length + 1 := by
  unfold ins
  split
  · omega
  · simp
theorem kvT_any (l : List Int) (p : Int) : ((kvT l).any fun kv => decide (kv.1 = (Sum.inl p : Key))) = decide (p ∈ l) := by
  induction l with
  | nil => rfl
  | cons a l ih =>
    show (decide ((Sum.inl a : Key) = Sum.inl p) || ((kvT l).any fun kv => decide (kv.1 = (Sum.inl p : Key)))) = _
    rw [ih, key_ll]
    by_cases e : a = p
    · subst e; simp
    · have e2 : ¬ p = a := fun z => e z.symm
      simp [e, e2]
theorem valV_kvT (l : List Int) (p : Int) : (valV (kvT l) (Sum.inl p)).isSome = decide (p ∈ l) := by
  rw [← valV_any, kvT_any]
theorem kvT_len (l : List Int) : (kvT l).length = l.length := by simp [kvT]
theorem putK_kvT (l : List Int) (p : Int) : putK (kvT l) (Sum.inl p) (.bl true) = kvT (ins p l) := by
  unfold putK
  rw [kvT_any]
  unfold ins
  by_cases e : p ∈ l
  · rw [decide_eq_true e, if_pos rfl, if_pos e]
    unfold kvT
    rw [List.map_map]
    refine List.map_congr_left fun a _ => ?_
    show (if (Sum.inl a : Key) = Sum.inl p then _ else _) = _
    split
    · rfl
    · rfl
  · rw [decide_eq_false e, if_neg Bool.false_ne_true, if_neg e]
    unfold kvT
    rw [List.map_append]
    rfl
def sendCode (x : BoxS × ToldS) : BoxS × ToldS :=
  if x.1.tf = "full" then
    match x.1.last with
    | some p => ({ x.1 with valid := ins p x.1.valid, sent := ins p x.1.sent }, { x.2 with letters := x.2.letters ++ [p] })
    | none => x
  else x
def act (x : BoxS × ToldS) (a : Str) : BoxS × ToldS :=
  if a = "code" then sendCode x
  else if a = "void" then ({ x.1 with valid := [] }, x.2)
  else if a = "look" then ({ x.1 with tf := if x.1.inside.isEmpty then "free" else "full" }, x.2)
  else if a = "lock" then ({ x.1 with ajar := false }, x.2)
  else ({ x.1 with tf := a }, x.2)
def carry (r : RuleL) (m : Str) (x : BoxS × ToldS) : BoxS × ToldS := r.foldl act (x.1, { x.2 with moments := x.2.moments ++ [m] })
structure Bd (n : Nat) (x : BoxS × ToldS) : Prop where
  i : x.1.inside.length ≤ n
  v : x.1.valid.length ≤ n
  s : x.1.sent.length ≤ n
  r : x.1.served.length ≤ n
  l : x.2.letters.length ≤ n
  w : x.2.wrongs.length ≤ n
  m : x.2.moments.length ≤ n
theorem Bd.mono {n m : Nat} {x : BoxS × ToldS} (h : Bd n x) (e : n ≤ m) : Bd m x := ⟨Nat.le_trans h.i e, Nat.le_trans h.v e, Nat.le_trans h.s e, Nat.le_trans h.r e, Nat.le_trans h.l e, Nat.le_trans h.w e, Nat.le_trans h.m e⟩
theorem Bd.send {n : Nat} {x : BoxS × ToldS} (h : Bd n x) : Bd (n + 1) (sendCode x) := by
  unfold sendCode
  split
  · split
    · rename_i p _
      have h1 := ins_len p x.1.valid
      have h2 := ins_len p x.1.sent
      refine ⟨Nat.le_succ_of_le h.i, ?_, ?_, Nat.le_succ_of_le h.r, ?_, Nat.le_succ_of_le h.w, Nat.le_succ_of_le h.m⟩
      · have := h.v; show (ins p x.1.valid).length ≤ n + 1; omega
      · have := h.s; show (ins p x.1.sent).length ≤ n + 1; omega
      · have := h.l; show (x.2.letters ++ [p]).length ≤ n + 1; rw [List.length_append]; show x.2.letters.length + 1 ≤ n + 1; omega
    · exact h.mono (Nat.le_succ n)
  · exact h.mono (Nat.le_succ n)
theorem Bd.act {n : Nat} {x : BoxS × ToldS} (h : Bd n x) (a : Str) : Bd (n + 1) (act x a) := by
  unfold K29.act
  have h1 := h.mono (Nat.le_succ n)
  split
  · exact h.send
  · split
    · exact ⟨h1.i, Nat.zero_le _, h1.s, h1.r, h1.l, h1.w, h1.m⟩
    · split
      · exact ⟨h1.i, h1.v, h1.s, h1.r, h1.l, h1.w, h1.m⟩
      · split
        · exact ⟨h1.i, h1.v, h1.s, h1.r, h1.l, h1.w, h1.m⟩
        · exact ⟨h1.i, h1.v, h1.s, h1.r, h1.l, h1.w, h1.m⟩
theorem Bd.foldl (r : RuleL) : ∀ {n : Nat} {x : BoxS × ToldS}, Bd n x → Bd (n + r.length) (r.foldl K29.act x) := by
  induction r with
  | nil => intro n x h; exact h
  | cons a r ih =>
    intro n x h
    have := ih (h.act a)
    rw [List.length_cons, show n + (r.length + 1) = n + 1 + r.length by omega]
    exact this
theorem Bd.mom {n : Nat} {x : BoxS × ToldS} (h : Bd n x) (m : Str) : Bd (n + 1) (x.1, { x.2 with moments := x.2.moments ++ [m] }) := by
  have h1 := h.mono (Nat.le_succ n)
  refine ⟨h1.i, h1.v, h1.s, h1.r, h1.l, h1.w, ?_⟩
  have := h.m
  show (x.2.moments ++ [m]).length ≤ n + 1
  rw [List.length_append]
  show x.2.moments.length + 1 ≤ n + 1
  omega
theorem Bd.carry {n : Nat} {x : BoxS × ToldS} (h : Bd n x) (r : RuleL) (m : Str) : Bd (n + 1 + r.length) (carry r m x) := (h.mom m).foldl r
def BTx (K : PySem.W.Frag) (H0 H : Hp) (b t : Addr) (x : BoxS × ToldS) : Prop := ∃ dx li dv ds dr dt yb ll lg lw lm, BT K H0 H b dx li dv ds dr x.1 t dt yb ll lg lw lm x.2
theorem lt_line {n : Nat} (h : n ≤ 1000000) : n < sizeLine := Nat.lt_of_le_of_lt h (by decide)
section
variable {P : Program} {w : World} {K : PySem.W.Frag} {mg : Str → Option Value} {base : Heap}
def sp_Box_send_code (K : PySem.W.Frag) : Sp := fun vs H Q _ => ∃ (H0 : Hp) (b t : Addr) (x : BoxS × ToldS) (n : Nat), vs = [.ref b, .ref t] ∧ BTx K H0 H b t x ∧ Bd n x ∧ n < 1000000 ∧ ∀ H', BTx K H0 H' b t (sendCode x) → Q .non H'
set_option maxHeartbeats 2000000 in
theorem ok_Box_send_code (T : Txt K mg) {fd : FuncData} (F : FunD K d_Box_send_code.name d_Box_send_code.qual d_Box_send_code.params d_Box_send_code.body d_Box_send_code.scope (d_Box_send_code.dvs K) (d_Box_send_code.kws K) (He.fAd K d_Box_send_code.at_) fd) : FnOk P w K mg base C8.CX0 1 (He.fAd K d_Box_send_code.at_) fd ["self", "told"] (sp_Box_send_code K) := by
  refine F.ok sc_Box_send_code (fun vs H Q E h => ?_) (fun cdv A outer s H vs Q E hr h => ?_)
  · obtain ⟨H0, b, t, x, n, rfl, _⟩ := h
    rfl
  · have hu := L2.hu_of hr
    obtain ⟨H0, b, t, ⟨S, U⟩, n, rfl, ⟨dx, li, dv, ds, dr, dt, yb, ll, lg, lw, lm, h⟩, bd, hn, q⟩ := h
    refine ⟨_, (PSs.nox ((pss_one (ps_if (PW.pt (pw_and (pt_cmpR op_eq (My.pe_fldK (K := K) rfl (pv 0) rfl) pe_str (nomark _)) (pw_and1 (pt_cmpR op_notN (My.pe_fldK (K := K) rfl (pv 0) rfl) pe_non (nomark _)))))
  (pss_cons (ps_dput hu (My.pe_fldK (K := K) rfl (pv 0) rfl) (My.pe_fldK (K := K) rfl (pv 0) rfl) pe_bl rfl)
  (pss_cons (ps_dput hu (My.pe_fldK (K := K) rfl (pv 0) rfl) (My.pe_fldK (K := K) rfl (pv 0) rfl) pe_bl rfl)
  (pss_one (ps_expr (My.pe_bmK (K := K) rfl PySem.F.plainAttrs_list PySem.F.slot_list_append PySem.F.type_list_append mt_append (My.pe_fldK (K := K) rfl (pv 1) rfl) (pa_cons (My.pe_fldK (K := K) rfl (pv 0) rfl) pa_nil))))))
  pss_nil)))), ?_⟩
    refine ⟨_, rfl, b, _, dx, _, _, rfl, h.hb, T.cl_Box, T.no_Box_taken_for, rfl, rfl, _, rfl, ?_⟩
    by_cases c : S.tf = "full"
    · have e : decide (V.str S.tf = V.str "full") = true := decide_eq_true (congrArg V.str c)
      rw [e]
      refine ⟨_, rfl, b, _, dx, _, _, rfl, h.hb, T.cl_Box, T.no_Box_last, rfl, rfl, _, rfl, ?_⟩
      cases hl : S.last with
      | none =>
        have e0 : sendCode (S, U) = (S, U) := by
          unfold sendCode
          simp only [if_pos c, hl]
        rw [e0] at q
        exact q _ ⟨dx, li, dv, ds, dr, dt, yb, ll, lg, lw, lm, h⟩
      | some p =>
        have e0 : sendCode (S, U) = ({ S with valid := ins p S.valid, sent := ins p S.sent }, { U with letters := U.letters ++ [p] }) := by
          unfold sendCode
          simp only [if_pos c, hl]
        rw [e0] at q
        have hb := h.hb
        refine ⟨_, rfl, b, _, dx, _, _, rfl, hb, T.cl_Box, T.no_Box_valid, rfl, _, rfl, b, _, dx, _, oV S.last, rfl, hb, T.cl_Box, T.no_Box_last, rfl, dv, upd H dv (.dK (kvT (ins p S.valid))), rfl, ?_, ?_⟩
        · rw [hl, ← putK_kvT]
          exact DPut.k (k := Sum.inl p) h.hdv (by rw [kvT_len]; exact lt_line (by have := bd.v; show S.valid.length ≤ 1000000; have z : S.valid.length ≤ n := bd.v; omega))
        have h2 := h.set_dv (S' := { S with valid := ins p S.valid }) rfl
        have hb2 := h2.hb
        refine ⟨_, rfl, b, _, dx, _, _, rfl, hb2, T.cl_Box, T.no_Box_sent, rfl, _, rfl, b, _, dx, _, oV S.last, rfl, hb2, T.cl_Box, T.no_Box_last, rfl, ds, upd (upd H dv (.dK (kvT (ins p S.valid)))) ds (.dK (kvT (ins p S.sent))), rfl, ?_, ?_⟩
        · rw [hl, ← putK_kvT S.sent p]
          exact DPut.k (k := Sum.inl p) h2.hds (by rw [kvT_len]; exact lt_line (by show S.sent.length ≤ 1000000; have z : S.sent.length ≤ n := bd.s; omega))
        have h3 := h2.set_ds (S' := { S with valid := ins p S.valid, sent := ins p S.sent }) rfl
        refine ⟨_, rfl, t, _, dt, _, _, rfl, h3.ht, T.cl_Told, T.no_Told_letters, rfl, .inl ⟨rfl, _, SqL.of h3.hll⟩, _, rfl, b, _, dx, _, oV S.last, rfl, h3.hb, T.cl_Box, T.no_Box_last, rfl, ll, _, _, rfl, rfl, h3.hll, ?_, ?_⟩
        · rw [List.length_map]
          exact lt_line (by show U.letters.length ≤ 1000000; have z : U.letters.length ≤ n := bd.l; omega)
        · have h4 := h3.set_ll (T' := { U with letters := U.letters ++ [p] }) rfl
          have e4 : U.letters.map V.int ++ [oV S.last] = (U.letters ++ [p]).map V.int := by rw [hl, List.map_append]; rfl
          rw [e4]
          exact q _ ⟨dx, li, dv, ds, dr, dt, yb, ll, lg, lw, lm, h4⟩
    · have e : decide (V.str S.tf = V.str "full") = false := decide_eq_false (fun z => c (V.str.inj z))
      rw [e]
      have e0 : sendCode (S, U) = (S, U) := by
        unfold sendCode
        simp only [if_neg c]
      rw [e0] at q
      exact q _ ⟨dx, li, dv, ds, dr, dt, yb, ll, lg, lw, lm, h⟩
theorem c_Box_send_code (T : Txt K mg) : C8.Met P w K mg base 1 (He.ga K "Box") "_send_code" (sp_Box_send_code K) [] := by
  obtain ⟨fd, F⟩ := T.f_Box_send_code
  exact ⟨_, fd, _, _, T.cl_Box, T.m_Box_send_code, ok_Box_send_code T F, F.bindsN (fun _ _ _ _ _ _ us hl => match us, hl with | [_, _], _ => rfl), .nil⟩
def sp_Box_act (K : PySem.W.Frag) : Sp := fun vs H Q _ => ∃ (H0 : Hp) (b t : Addr) (a : Str) (x : BoxS × ToldS) (n : Nat), vs = [.ref b, .str a, .ref t] ∧ BTx K H0 H b t x ∧ Bd n x ∧ n < 1000000 ∧ ∀ H', BTx K H0 H' b t (act x a) → Q .non H'
theorem str_eqF {a b : Str} (h : ¬ a = b) : decide (V.str a = V.str b) = false := decide_eq_false fun z => h (V.str.inj z)
theorem str_eqT {a b : Str} (h : a = b) : decide (V.str a = V.str b) = true := decide_eq_true (congrArg V.str h)
set_option maxHeartbeats 2000000 in
theorem ok_Box_act (T : Txt K mg) {fd : FuncData} (F : FunD K d_Box_act.name d_Box_act.qual d_Box_act.params d_Box_act.body d_Box_act.scope (d_Box_act.dvs K) (d_Box_act.kws K) (He.fAd K d_Box_act.at_) fd) : FnOk P w K mg base C8.CX0 2 (He.fAd K d_Box_act.at_) fd ["self", "action", "told"] (sp_Box_act K) := by
  have c_Box_send_code := c_Box_send_code (P := P) (w := w) (base := base) T
  refine F.ok sc_Box_act (fun vs H Q E h => ?_) (fun cdv A outer s H vs Q E hr h => ?_)
  · obtain ⟨H0, b, t, a, x, n, rfl, _⟩ := h
    rfl
  · have hu := L2.hu_of hr
    obtain ⟨H0, b, t, a, ⟨S, U⟩, n, rfl, hx, bd, hn, q⟩ := h
    refine ⟨_, (PSs.nox ((pss_one (ps_if (pt_cmpR op_eq (pv 1) pe_str (nomark _))
  (pss_one (ps_expr (C8.pe_mt c_Box_send_code hr (by decide) (pv 0) (pa_cons (pv 2) pa_nil))))
  (pss_one (ps_if (pt_cmpR op_eq (pv 1) pe_str (nomark _))
  (pss_one (ps_fld (pv 0) pe_dnewK rfl))
  (pss_one (ps_if (pt_cmpR op_eq (pv 1) pe_str (nomark _))
  (pss_one (ps_fld (pv 0) (pe_ifExp (My.pt_truthK (K := K) rfl (My.pe_fldK (K := K) rfl (pv 0) rfl) (by intro _; rfl)) pe_str pe_str) rfl))
  (pss_one (ps_if (pt_cmpR op_eq (pv 1) pe_str (nomark _))
  (pss_one (ps_fld (pv 0) pe_bl rfl))
  (pss_one (ps_fld (pv 0) (pv 1) rfl)))))))))))), ?_⟩
    refine ⟨_, rfl, rfl, _, rfl, ?_⟩
    by_cases c1 : a = "code"
    · rw [str_eqT c1]
      have e0 : act (S, U) a = sendCode (S, U) := by unfold act; rw [if_pos c1]
      rw [e0] at q
      obtain ⟨dx, li, dv, ds, dr, dt, yb, ll, lg, lw, lm, h⟩ := id hx
      exact ⟨_, rfl, b, dx, _, rfl, h.hb, rfl, _, rfl, H0, b, t, (S, U), n, rfl, hx, bd, hn, q⟩
    rw [str_eqF c1]
    obtain ⟨dx, li, dv, ds, dr, dt, yb, ll, lg, lw, lm, h⟩ := id hx
    refine ⟨_, rfl, rfl, _, rfl, ?_⟩
    by_cases c2 : a = "void"
    · rw [str_eqT c2]
      have e0 : act (S, U) a = ({ S with valid := [] }, U) := by unfold act; rw [if_neg c1, if_pos c2]
      rw [e0] at q
      refine fun p hp => ?_
      have npb : b ≠ p := ne_of_none h.hb hp
      refine ⟨_, rfl, b, _, dx, _, rfl, (by rw [upd_ne npb]; exact h.hb), T.cl_Box, T.no_Box_valid, (by show 8 < 1000; decide), ?_⟩
      exact q _ ⟨dx, li, p, ds, dr, dt, yb, ll, lg, lw, lm, h.new_dv hp⟩
    rw [str_eqF c2]
    refine ⟨_, rfl, rfl, _, rfl, ?_⟩
    by_cases c3 : a = "look"
    · rw [str_eqT c3]
      have e0 : act (S, U) a = ({ S with tf := if S.inside.isEmpty then "free" else "full" }, U) := by unfold act; rw [if_neg c1, if_neg c2, if_pos c3]
      rw [e0] at q
      refine ⟨_, rfl, b, _, dx, _, _, rfl, h.hb, T.cl_Box, T.no_Box_inside, rfl, !(S.inside.map V.int).isEmpty, .inl ⟨_, SqL.of h.hli, rfl⟩, ?_⟩
      have h1 := h.set_b (S' := { S with tf := if S.inside.isEmpty then "free" else "full" }) rfl rfl rfl rfl
      rw [List.isEmpty_map]
      cases c : S.inside.isEmpty with
      | true =>
        rw [c] at h1 q
        exact ⟨_, rfl, b, _, dx, _, rfl, h.hb, T.cl_Box, T.no_Box_taken_for, (by show 8 < 1000; decide), q _ ⟨dx, li, dv, ds, dr, dt, yb, ll, lg, lw, lm, h1⟩⟩
      | false =>
        rw [c] at h1 q
        exact ⟨_, rfl, b, _, dx, _, rfl, h.hb, T.cl_Box, T.no_Box_taken_for, (by show 8 < 1000; decide), q _ ⟨dx, li, dv, ds, dr, dt, yb, ll, lg, lw, lm, h1⟩⟩
    rw [str_eqF c3]
    refine ⟨_, rfl, rfl, _, rfl, ?_⟩
    by_cases c4 : a = "lock"
    · rw [str_eqT c4]
      have e0 : act (S, U) a = ({ S with ajar := false }, U) := by unfold act; rw [if_neg c1, if_neg c2, if_neg c3, if_pos c4]
      rw [e0] at q
      have h1 := h.set_b (S' := { S with ajar := false }) rfl rfl rfl rfl
      exact ⟨_, rfl, b, _, dx, _, rfl, h.hb, T.cl_Box, T.no_Box_ajar, (by show 8 < 1000; decide), q _ ⟨dx, li, dv, ds, dr, dt, yb, ll, lg, lw, lm, h1⟩⟩
    rw [str_eqF c4]
    have e0 : act (S, U) a = ({ S with tf := a }, U) := by unfold act; rw [if_neg c1, if_neg c2, if_neg c3, if_neg c4]
    rw [e0] at q
    have h1 := h.set_b (S' := { S with tf := a }) rfl rfl rfl rfl
    exact ⟨_, rfl, _, rfl, b, _, dx, _, rfl, h.hb, T.cl_Box, T.no_Box_taken_for, (by show 8 < 1000; decide), q _ ⟨dx, li, dv, ds, dr, dt, yb, ll, lg, lw, lm, h1⟩⟩
theorem c_Box_act (T : Txt K mg) : C8.Met P w K mg base 2 (He.ga K "Box") "_act" (sp_Box_act K) [] := by
  obtain ⟨fd, F⟩ := T.f_Box_act
  exact ⟨_, fd, _, _, T.cl_Box, T.m_Box_act, ok_Box_act T F, F.bindsN (fun _ _ _ _ _ _ us hl => match us, hl with | [_, _, _], _ => rfl), .nil⟩
def sp_Box_carry_out (K : PySem.W.Frag) : Sp := fun vs H Q _ => ∃ (H0 : Hp) (b t k : Addr) (m : Str) (i : Nat) (r : RuleL) (d : Int) (rs : List RuleL) (x : BoxS × ToldS) (n : Nat), vs = [.ref b, .ref k, .str m, .ref t] ∧ BTx K H0 H b t x ∧ BookAt K H0 k d rs ∧ moms[i]? = some m ∧ rs[i]? = some r ∧
  r.length ≤ 6 ∧ Bd n x ∧ n < 999900 ∧ ∀ H', BTx K H0 H' b t (carry r m x) → Q .non H'
theorem BTx.same {K : PySem.W.Frag} {H0 H : Hp} {b t : Addr} {x : BoxS × ToldS} (h : BTx K H0 H b t x) : Same H0 H := by
  obtain ⟨dx, li, dv, ds, dr, dt, yb, ll, lg, lw, lm, h⟩ := h
  exact h.same
set_option maxHeartbeats 2000000 in
theorem ok_Box_carry_out (T : Txt K mg) {fd : FuncData} (F : FunD K d_Box_carry_out.name d_Box_carry_out.qual d_Box_carry_out.params d_Box_carry_out.body d_Box_carry_out.scope (d_Box_carry_out.dvs K) (d_Box_carry_out.kws K) (He.fAd K d_Box_carry_out.at_) fd) : FnOk P w K mg base C8.CX0 3 (He.fAd K d_Box_carry_out.at_) fd ["self", "book", "moment", "told"] (sp_Box_carry_out K) := by
  have c_Book_rule := c_Book_rule (P := P) (w := w) (base := base) T
  have c_Box_act := c_Box_act (P := P) (w := w) (base := base) T
  refine F.ok sc_Box_carry_out (fun vs H Q E h => ?_) (fun cdv A outer s H vs Q E hr h => ?_)
  · obtain ⟨H0, b, t, k, m, i, r, d, rs, x, n, rfl, _⟩ := h
    rfl
  · have hu := L2.hu_of hr
    obtain ⟨H0, b, t, k, m, i, r, d, rs, ⟨S, U⟩, n, rfl, hx, hk, hm, hr1, h6, bd, hn, q⟩ := h
    refine ⟨_, (PSs.nox ((pss_cons (ps_expr (My.pe_bmK (K := K) rfl PySem.F.plainAttrs_list PySem.F.slot_list_append PySem.F.type_list_append mt_append (My.pe_fldK (K := K) rfl (pv 3) rfl) (pa_cons (pv 2) pa_nil)))
  (pss_one (ps_for PassesOwn.never rfl (My.pi_tupK (K := K) rfl (C8.pe_mt c_Book_rule hr (by decide) (pv 1) (pa_cons (pv 2) pa_nil))) (pg_name (i := 4) sc_Box_carry_out.nd rfl (by first | exact Or.inl rfl | exact Or.inr rfl))
  (pss_one (ps_expr (C8.pe_mt c_Box_act hr (by decide) (pv 0) (pa_cons (pv 4) (pa_cons (pv 3) pa_nil)))))))))), ?_⟩
    obtain ⟨dx, li, dv, ds, dr, dt, yb, ll, lg, lw, lm, h⟩ := id hx
    refine ⟨_, rfl, t, _, dt, _, _, rfl, h.ht, T.cl_Told, T.no_Told_moments, rfl, .inl ⟨rfl, _, SqL.of h.hlm⟩, _, rfl, lm, _, _, rfl, rfl, h.hlm, ?_, ?_⟩
    · rw [List.length_map]
      exact lt_line (by show U.moments.length ≤ 1000000; have z : U.moments.length ≤ n := bd.m; omega)
    have h1 := h.set_lm (T' := { U with moments := U.moments ++ [m] }) rfl
    have e4 : U.moments.map V.str ++ [V.str m] = (U.moments ++ [m]).map V.str := by rw [List.map_append]; rfl
    rw [e4]
    have hx1 : BTx K H0 (upd H lm (.lst ((U.moments ++ [m]).map V.str))) b t (S, { U with moments := U.moments ++ [m] }) := ⟨dx, li, dv, ds, dr, dt, yb, ll, lg, lw, lm, h1⟩
    obtain ⟨dk, tk, ak, hkb, _⟩ := id (hk.same hx1.same)
    refine ⟨_, rfl, k, dk, _, rfl, hkb, rfl, _, rfl, H0, k, d, rs, m, i, r, rfl, hx1.same, hk, hm, hr1, fun a ha => ?_⟩
    have hbd : ∀ j, Bd (n + 1 + j) ((r.take j).foldl act (S, { U with moments := U.moments ++ [m] })) := fun j => (((bd.mom m).foldl (r.take j)).mono (by rw [List.length_take]; omega))
    refine ⟨a, rfl, ⟨_, same_tup hx1.same ha⟩, for_tup (K := K) (xs := r.map V.str) (fun j σ H' => ∃ u, σ = [some (.ref b), some (.ref k), some (.str m), some (.ref t), u] ∧ BTx K H0 H' b t ((r.take j).foldl act (S, { U with moments := U.moments ++ [m] }))) ⟨_, rfl, hx1⟩ (fun j σ H' _ ⟨_, _, z⟩ => same_tup z.same ha) ?_ ?_⟩
    · rintro j y σ H2 hj ⟨u, rfl, hx2⟩
      obtain ⟨z, hz, rfl⟩ := map_get hj
      have hlt : j < r.length := (List.getElem?_eq_some_iff.mp hz).1
      obtain ⟨dx2, li2, dv2, ds2, dr2, dt2, yb2, ll2, lg2, lw2, lm2, h2⟩ := id hx2
      refine ⟨_, rfl, b, dx2, _, rfl, h2.hb, rfl, _, rfl, _, rfl, H0, b, t, z, _, n + 1 + j, rfl, hx2, hbd j, by omega, fun H3 hx3 => ?_⟩
      refine ⟨_, rfl, ?_⟩
      rw [take_more hz, List.foldl_append]
      exact hx3
    · rintro σ H2 ⟨u, rfl, hx2⟩
      rw [List.length_map, List.take_length] at hx2
      exact q _ hx2
theorem c_Box_carry_out (T : Txt K mg) : C8.Met P w K mg base 3 (He.ga K "Box") "_carry_out" (sp_Box_carry_out K) [] := by
  obtain ⟨fd, F⟩ := T.f_Box_carry_out
  exact ⟨_, fd, _, _, T.cl_Box, T.m_Box_carry_out, ok_Box_carry_out T F, F.bindsN (fun _ _ _ _ _ _ us hl => match us, hl with | [_, _, _, _], _ => rfl), .nil⟩
/-- the last step of a bring, a code -/
def goAway (sh : Bool) (m1 m2 : Str) (r1 r2 : RuleL) (x : BoxS × ToldS) : BoxS × ToldS :=
  if x.1.ajar = true then (if sh = true then carry r1 m1 ({ x.1 with ajar := false }, x.2) else carry r2 m2 x) else x
theorem Bd.go {n : Nat} {x : BoxS × ToldS} (h : Bd n x) {sh : Bool} {m1 m2 : Str} {r1 r2 : RuleL} (h1 : r1.length ≤ 6) (h2 : r2.length ≤ 6) : Bd (n + 7) (goAway sh m1 m2 r1 r2 x) := by
  unfold goAway
  split
  · split
    · exact (Bd.carry (x := ({ x.1 with ajar := false }, x.2)) ⟨h.i, h.v, h.s, h.r, h.l, h.w, h.m⟩ r1 m1).mono (by omega)
    · exact (h.carry r2 m2).mono (by omega)
  · exact h.mono (by omega)
def sp_Box_go_away (K : PySem.W.Frag) : Sp := fun vs H Q _ => ∃ (H0 : Hp) (b t k g : Addr) (sh : Bool) (m1 m2 : Str) (i1 i2 : Nat) (r1 r2 : RuleL) (d : Int) (rs : List RuleL) (x : BoxS × ToldS) (n : Nat), vs = [.ref b, .ref k, .bl sh, .ref g, .ref t] ∧ BTx K H0 H b t x ∧ BookAt K H0 k d rs ∧
  SqT K H g [.str m1, .str m2] ∧ moms[i1]? = some m1 ∧ rs[i1]? = some r1 ∧ r1.length ≤ 6 ∧ moms[i2]? = some m2 ∧ rs[i2]? = some r2 ∧ r2.length ≤ 6 ∧ Bd n x ∧ n < 999000 ∧ ∀ H', BTx K H0 H' b t (goAway sh m1 m2 r1 r2 x) → Q .non H'
set_option maxHeartbeats 2000000 in
theorem ok_Box_go_away (T : Txt K mg) {fd : FuncData} (F : FunD K d_Box_go_away.name d_Box_go_away.qual d_Box_go_away.params d_Box_go_away.body d_Box_go_away.scope (d_Box_go_away.dvs K) (d_Box_go_away.kws K) (He.fAd K d_Box_go_away.at_) fd) : FnOk P w K mg base C8.CX0 4 (He.fAd K d_Box_go_away.at_) fd ["self", "book", "shuts", "moments", "told"] (sp_Box_go_away K) := by
  have c_Box_carry_out := c_Box_carry_out (P := P) (w := w) (base := base) T
  refine F.ok sc_Box_go_away (fun vs H Q E h => ?_) (fun cdv A outer s H vs Q E hr h => ?_)
  · obtain ⟨H0, b, t, k, g, sh, m1, m2, i1, i2, r1, r2, d, rs, x, n, rfl, _⟩ := h
    rfl
  · have hu := L2.hu_of hr
    obtain ⟨H0, b, t, k, g, sh, m1, m2, i1, i2, r1, r2, d, rs, ⟨S, U⟩, n, rfl, hx, hk, hg, hm1, hr1, hl1, hm2, hr2, hl2, bd, hn, q⟩ := h
    refine ⟨_, (PSs.nox ((pss_cons (ps_if (pt_not (pt_val (My.pe_fldK (K := K) rfl (pv 0) rfl)))
  (pss_one ps_retN)
  pss_nil)
  (pss_cons (ps_asg (pv 3) (My.pg_tupK (K := K) (n := 2) rfl rfl (pgs_cons (pg_name (i := 5) sc_Box_go_away.nd rfl (by first | exact Or.inl rfl | exact Or.inr rfl)) (pgs_cons (pg_name (i := 6) sc_Box_go_away.nd rfl (by first | exact Or.inl rfl | exact Or.inr rfl)) pgs_nil))))
  (pss_one (ps_if (pt_val (pv 2))
  (pss_cons (ps_fld (pv 0) pe_bl rfl)
  (pss_one (ps_expr (C8.pe_mt c_Box_carry_out hr (by decide) (pv 0) (pa_cons (pv 1) (pa_cons (pv 5) (pa_cons (pv 4) pa_nil)))))))
  (pss_one (ps_expr (C8.pe_mt c_Box_carry_out hr (by decide) (pv 0) (pa_cons (pv 1) (pa_cons (pv 6) (pa_cons (pv 4) pa_nil)))))))))))), ?_⟩
    obtain ⟨dx, li, dv, ds, dr, dt, yb, ll, lg, lw, lm, h⟩ := id hx
    refine ⟨_, rfl, b, _, dx, _, _, rfl, h.hb, T.cl_Box, T.no_Box_ajar, rfl, _, rfl, ?_⟩
    unfold goAway at q
    have e1 : S.ajar = (S, U).1.ajar := rfl
    cases c : S.ajar with
    | false =>
      rw [if_neg (by rw [← e1, c]; exact Bool.false_ne_true)] at q
      exact q _ hx
    | true =>
      rw [if_pos (by rw [← e1, c])] at q
      refine ⟨_, rfl, g, _, rfl, hg, rfl, _, _, rfl, _, _, rfl, rfl, ?_⟩
      refine ⟨_, rfl, _, rfl, ?_⟩
      cases sh with
      | true =>
        rw [if_pos rfl] at q
        refine ⟨_, rfl, b, _, dx, _, rfl, h.hb, T.cl_Box, T.no_Box_ajar, (by show 8 < 1000; decide), ?_⟩
        have h1 := h.set_b (S' := { S with ajar := false }) rfl rfl rfl rfl
        have hx1 : BTx K H0 _ b t ({ S with ajar := false }, U) := ⟨dx, li, dv, ds, dr, dt, yb, ll, lg, lw, lm, h1⟩
        exact ⟨_, rfl, b, dx, _, rfl, upd_same, rfl, _, rfl, _, rfl, _, rfl, H0, b, t, k, m1, i1, r1, d, rs, _, n, rfl, hx1, hk, hm1, hr1, hl1, ⟨bd.i, bd.v, bd.s, bd.r, bd.l, bd.w, bd.m⟩, by omega, q⟩
      | false =>
        rw [if_neg Bool.false_ne_true] at q
        exact ⟨_, rfl, b, dx, _, rfl, h.hb, rfl, _, rfl, _, rfl, _, rfl, H0, b, t, k, m2, i2, r2, d, rs, _, n, rfl, hx, hk, hm2, hr2, hl2, bd, by omega, q⟩
theorem c_Box_go_away (T : Txt K mg) : C8.Met P w K mg base 4 (He.ga K "Box") "_go_away" (sp_Box_go_away K) [] := by
  obtain ⟨fd, F⟩ := T.f_Box_go_away
  exact ⟨_, fd, _, _, T.cl_Box, T.m_Box_go_away, ok_Box_go_away T F, F.bindsN (fun _ _ _ _ _ _ us hl => match us, hl with | [_, _, _, _, _], _ => rfl), .nil⟩
/-- somebody takes all that lies here -/
def letTake (own : Option Int) (x : BoxS × ToldS) : BoxS × ToldS :=
  ({ x.1 with inside := [], served := match own with
      | some p => if p ∈ x.1.inside then ins p x.1.served else x.1.served
      | none => x.1.served },
   { x.2 with got := x.1.inside, wrongs := if x.1.inside.any (fun p => decide (some p ≠ own)) = true then x.2.wrongs ++ [("wrong" : Str)] else x.2.wrongs })
theorem Bd.take {n : Nat} {x : BoxS × ToldS} (h : Bd n x) (own : Option Int) : Bd (n + 1) (letTake own x) := by
  have h1 := h.mono (Nat.le_succ n)
  refine ⟨Nat.zero_le _, h1.v, h1.s, ?_, h1.l, ?_, h1.m⟩
  · have := h.r
    unfold letTake
    cases own with
    | none => exact h1.r
    | some p =>
      show (if p ∈ x.1.inside then ins p x.1.served else x.1.served).length ≤ n + 1
      have := ins_len p x.1.served
      split <;> omega
  · have := h.w
    show (if x.1.inside.any (fun p => decide (some p ≠ own)) = true then x.2.wrongs ++ [("wrong" : Str)] else x.2.wrongs).length ≤ n + 1
    split
    · rw [List.length_append]
      show x.2.wrongs.length + 1 ≤ n + 1
      omega
    · omega
end
end K29

namespace K29
open PySem PySem.Spec PyProof.Rows L2 My
theorem inV_int (p : Int) (l : List Int) : inV (.int p) (l.map V.int) = decide (p ∈ l) := by
  induction l with
  | nil => rfl
  | cons a l ih =>
    show (eqV (.int a) (.int p) || inV (.int p) (l.map V.int)) = _
    rw [ih]
    show ((a == p) || decide (p ∈ l)) = _
    by_cases e : a = p
    · subst e; simp
    · have e2 : ¬ p = a := fun z => e z.symm
      simp [e, e2]
theorem inV_non (l : List Int) : inV .non (l.map V.int) = false := by
  induction l with
  | nil => rfl
  | cons a l ih =>
    show (eqV (.int a) .non || inV .non (l.map V.int)) = _
    rw [ih]
    rfl
theorem all_flat_int (l : List Int) : (l.map V.int).all flatV = true := by
  rw [List.all_map]
  exact List.all_eq_true.mpr fun _ _ => rfl
theorem BT.to {K : PySem.W.Frag} {H0 H H' : Hp} {b dx li dv ds dr : Addr} {S : BoxS} {t dt : Addr} {yb : Bool} {ll lg lw lm : Addr} {U : ToldS} (h : BT K H0 H b dx li dv ds dr S t dt yb ll lg lw lm U) (s : Same H H') : BT K H0 H' b dx li dv ds dr S t dt yb ll lg lw lm U :=
  ⟨h.same.trans s, h.nd, h.new, s _ _ h.hb, s _ _ h.hli, s _ _ h.hdv, s _ _ h.hds, s _ _ h.hdr, s _ _ h.ht, s _ _ h.hll, s _ _ h.hlg, s _ _ h.hlw, s _ _ h.hlm⟩
section
variable {P : Program} {w : World} {K : PySem.W.Frag} {mg : Str → Option Value} {base : Heap}
def sp_Box_let_take (K : PySem.W.Frag) : Sp := fun vs H Q _ => ∃ (H0 : Hp) (b t : Addr) (own : Option Int) (x : BoxS × ToldS) (n : Nat), vs = [.ref b, oV own, .ref t] ∧ BTx K H0 H b t x ∧ Bd n x ∧ n < 999000 ∧ ∀ H', BTx K H0 H' b t (letTake own x) → Q .non H'
set_option maxHeartbeats 2000000 in
theorem ok_Box_let_take (T : Txt K mg) {fd : FuncData} (F : FunD K d_Box_let_take.name d_Box_let_take.qual d_Box_let_take.params d_Box_let_take.body d_Box_let_take.scope (d_Box_let_take.dvs K) (d_Box_let_take.kws K) (He.fAd K d_Box_let_take.at_) fd) : FnOk P w K mg base C8.CX0 1 (He.fAd K d_Box_let_take.at_) fd ["self", "own", "told"] (sp_Box_let_take K) := by
  refine F.ok sc_Box_let_take (fun vs H Q E h => ?_) (fun cdv A outer s H vs Q E hr h => ?_)
  · obtain ⟨H0, b, t, own, x, n, rfl, _⟩ := h
    rfl
  · have hu := L2.hu_of hr
    obtain ⟨H0, b, t, own, ⟨S, U⟩, n, rfl, ⟨dx, li, dv, ds, dr, dt, yb, ll, lg, lw, lm, h⟩, bd, hn, q⟩ := h
    refine ⟨_, (PSs.nox ((pss_cons (ps_fld (pv 2) (My.pe_fldK (K := K) rfl (pv 0) rfl) rfl)
  (pss_cons (ps_fld (pv 0) (pe_lst pa_nil) rfl)
  (pss_cons (ps_if (pt_cmpR (My.in_seqK (K := K) rfl) (pv 1) (My.pe_fldK (K := K) rfl (pv 2) rfl) (by rfl))
  (pss_one (ps_dput hu (My.pe_fldK (K := K) rfl (pv 0) rfl) (pv 1) pe_bl rfl))
  pss_nil)
  (pss_one (ps_if (pt_val (pe_callB (My.anyK (K := K) rfl rfl) (by rfl) T.any (by decide +kernel) (pa_cons (pe_lc (own := [("parcel", 3)]) (g := (gName 3)) (tt := tYes) (by rfl) sc_Box_let_take.nd (My.pi_listK (K := K) rfl (My.pe_fldK (K := K) rfl (pv 2) rfl)) (blkOk_by (N := N_Box_let_take) (sc := defScope s_Box_let_take) (by decide +kernel)) (fun _ _ _ _ _ => (pg_name (i := 3) sc_Box_let_take.nd rfl (by first | exact Or.inl rfl | exact Or.inr rfl))) (fun _ _ _ _ _ => pts_nil) (fun _ _ _ _ _ => (pe_cmpR op_ne (pv 3) (pv 1) (nomark _)))) pa_nil)))
  (pss_one (ps_expr (My.pe_bmK (K := K) rfl PySem.F.plainAttrs_list PySem.F.slot_list_append PySem.F.type_list_append mt_append (My.pe_fldK (K := K) rfl (pv 2) rfl) (pa_cons pe_str pa_nil))))
  pss_nil))))))), ?_⟩
    have nbt : b ≠ t := nd_ne h.nd (i := 0) (j := 5) rfl rfl (by decide)
    refine ⟨_, rfl, b, _, dx, _, _, rfl, h.hb, T.cl_Box, T.no_Box_inside, rfl, _, rfl, t, _, dt, _, rfl, h.ht, T.cl_Told, T.no_Told_got, (by show 6 < 1000; decide), ?_⟩
    refine ⟨Nat.zero_le _, fun p hp => ?_⟩
    have npt : p ≠ t := by
      intro z
      rw [z, upd_same] at hp
      cases hp
    rw [upd_ne npt] at hp
    have h1 := h.hand hp
    have npb : b ≠ p := ne_of_none h.hb hp
    refine ⟨_, rfl, b, _, dx, _, rfl, (by rw [upd_ne npb, upd_ne nbt]; exact h.hb), T.cl_Box, T.no_Box_inside, (by show 8 < 1000; decide), ?_⟩
    refine ⟨_, rfl, _, rfl, t, _, dt, _, _, rfl, h1.ht, T.cl_Told, T.no_Told_got, rfl, li, _, rfl, .inl (SqL.of h1.hlg), ?_, all_flat_int _, _, rfl, ?_⟩
    · cases own <;> rfl
    let W : List Str := if S.inside.any (fun p => decide (some p ≠ own)) = true then U.wrongs ++ [("wrong" : Str)] else U.wrongs
    -- what is left: any(..), wrongs.append
    have last : ∀ (H1 : Hp) (S1 : BoxS), BT K H0 H1 b dx p dv ds dr S1 t dt yb ll li lw lm { U with got := S.inside } →
        (∀ H', BTx K H0 H' b t (S1, { U with got := S.inside, wrongs := W }) → Q .non H') →
        tIfS (tB (tCB (rAny K) (tCons (tLc (iList K (tFld K (tVar 2) "got")) (gName 3) tYes (tOp rNe (tVar 3) (tVar 1)) [3]) tNil))) (tSeq (tDrop (tBM K "list" rAppend (tFld K (tVar 2) "wrongs") (tCons (tC (.str "wrong")) tNil))) tNext) tNext
          { nx := fun _ H' => Q .non H', rt := Q } [some (.ref b), some (oV own), some (.ref t), none] H1 := by
      intro H1 S1 h2 q2
      have sl := h2.hlg
      refine ⟨_, rfl, t, _, dt, _, _, rfl, h2.ht, T.cl_Told, T.no_Told_got, rfl, li, rfl, ⟨_, SqL.of sl⟩, fun D hD => lc_list (K := K) (a := li) (xs := S.inside.map V.int) (fun i H' => Same H1 H' ∧ H' D = some (.lst (((S.inside.take i).map (fun p => decide (some p ≠ own))).map V.bl))) ⟨same_new hD, upd_same⟩ (fun i H' _ z => SqL.of (z.1 _ _ sl)) ?_ ?_⟩
      · rintro i y H2 hi ⟨s2, hD2⟩
        obtain ⟨z, hz, rfl⟩ := map_get hi
        refine ⟨rfl, ?_⟩
        refine ⟨_, rfl, _, rfl, by cases own <;> rfl, _, hD2, ?_, same_upd s2 hD, ?_⟩
        · rw [List.length_map, List.length_map, List.length_take]
          have zz : S.inside.length ≤ n := bd.i
          exact lt_line (by omega)
        · rw [upd_same, take_more hz, List.map_append, List.map_append]
          have e : (!decide (V.int z = oV own)) = decide (some z ≠ own) := by
            cases own with
            | none => rfl
            | some k =>
              by_cases c : z = k
              · subst c
                simp [oV]
              · have c2 : ¬ V.int z = V.int k := fun e => c (V.int.inj e)
                simp [oV, c, c2]
          rw [e]
          rfl
      · rintro H2 ⟨s2, hD2⟩
        rw [List.length_map, List.take_length] at hD2
        refine ⟨D, _, rfl, SqL.of hD2, _, rfl, ?_⟩
        have h3 := h2.to s2
        have e : (S.inside.map (fun p => decide (some p ≠ own))).any id = S.inside.any (fun p => decide (some p ≠ own)) := by rw [List.any_map]; rfl
        rw [e]
        cases c : S.inside.any (fun p => decide (some p ≠ own)) with
        | false =>
          have eW : W = U.wrongs := if_neg (by rw [c]; exact Bool.false_ne_true)
          rw [eW] at q2
          exact q2 _ ⟨dx, p, dv, ds, dr, dt, yb, ll, li, lw, lm, h3⟩
        | true =>
          have eW : W = U.wrongs ++ [("wrong" : Str)] := if_pos c
          rw [eW] at q2
          refine ⟨_, rfl, t, _, dt, _, _, rfl, h3.ht, T.cl_Told, T.no_Told_wrongs, rfl, .inl ⟨rfl, _, SqL.of h3.hlw⟩, lw, _, _, rfl, rfl, h3.hlw, ?_, ?_⟩
          · have zz : U.wrongs.length ≤ n := bd.w
            rw [List.length_map]
            exact lt_line (by show U.wrongs.length ≤ 1000000; omega)
          · have h4 := h3.set_lw (T' := { U with got := S.inside, wrongs := U.wrongs ++ [("wrong" : Str)] }) rfl
            have e4 : U.wrongs.map V.str ++ [V.str "wrong"] = (U.wrongs ++ [("wrong" : Str)]).map V.str := by rw [List.map_append]; rfl
            show Q .non (upd H2 lw (.lst (U.wrongs.map V.str ++ [V.str "wrong"])))
            rw [e4]
            exact q2 _ ⟨dx, p, dv, ds, dr, dt, yb, ll, li, lw, lm, h4⟩
    cases own with
    | none =>
      show (if (if false = true then !inV V.non (S.inside.map V.int) else inV V.non (S.inside.map V.int)) = true then _ else _)
      rw [if_neg Bool.false_ne_true, inV_non]
      exact last _ _ h1 q
    | some o =>
      show (if (if false = true then !inV (.int o) (S.inside.map V.int) else inV (.int o) (S.inside.map V.int)) = true then _ else _)
      rw [if_neg Bool.false_ne_true, inV_int]
      have e0 : letTake (some o) (S, U) = ({ S with inside := [], served := if o ∈ S.inside then ins o S.served else S.served }, { U with got := S.inside, wrongs := W }) := rfl
      rw [e0] at q
      by_cases c : o ∈ S.inside
      · rw [decide_eq_true c, if_pos rfl]
        rw [if_pos c] at q
        refine ⟨_, rfl, b, _, dx, _, _, rfl, h1.hb, T.cl_Box, T.no_Box_served, rfl, _, rfl, dr, _, rfl, DPut.k (k := Sum.inl o) h1.hdr (by rw [kvT_len]; exact lt_line (by show S.served.length ≤ 1000000; have zz : S.served.length ≤ n := bd.r; omega)), ?_⟩
        rw [putK_kvT]
        exact last _ _ (h1.set_dr (S' := { S with inside := [], served := ins o S.served }) rfl) q
      · rw [decide_eq_false c, if_neg Bool.false_ne_true]
        rw [if_neg c] at q
        exact last _ _ h1 q
theorem c_Box_let_take (T : Txt K mg) : C8.Met P w K mg base 1 (He.ga K "Box") "_let_take" (sp_Box_let_take K) [] := by
  obtain ⟨fd, F⟩ := T.f_Box_let_take
  exact ⟨_, fd, _, _, T.cl_Box, T.m_Box_let_take, ok_Box_let_take T F, F.bindsN (fun _ _ _ _ _ _ us hl => match us, hl with | [_, _, _], _ => rfl), .nil⟩
end
end K29

namespace K29
open PySem PySem.Spec PyProof.Rows L2 My
/-- a box alone, over a heap in which none of it stands -/
structure BxA (K : PySem.W.Frag) (H0 H : Hp) (b dx li dv ds dr : Addr) (S : BoxS) : Prop where
  same : Same H0 H
  nd : [b, li, dv, ds, dr].Nodup
  new : ∀ a ∈ [b, li, dv, ds, dr], H0 a = none
  hb : H b = some (.ins (He.ga K "Box") dx (bxf S li dv ds dr))
  hli : H li = some (.lst (S.inside.map V.int))
  hdv : H dv = some (.dK (kvT S.valid))
  hds : H ds = some (.dK (kvT S.sent))
  hdr : H dr = some (.dK (kvT S.served))
def Bx (K : PySem.W.Frag) (H0 H : Hp) (b : Addr) (S : BoxS) : Prop := ∃ dx li dv ds dr, BxA K H0 H b dx li dv ds dr S
def T0 : ToldS := ⟨[], false, [], [], []⟩
def S0 : BoxS := ⟨false, [], "free", [], none, none, [], []⟩
section
variable {P : Program} {w : World} {K : PySem.W.Frag} {mg : Str → Option Value} {base : Heap}
def sp_Told_init (K : PySem.W.Frag) : Sp := fun vs H Q _ => ∃ (t dt : Addr), vs = [.ref t] ∧ H t = some (.ins (He.ga K "Told") dt []) ∧
  ∀ H' ll lg lw lm, But [t] H H' → [ll, lg, lw, lm].Nodup → (∀ a ∈ [ll, lg, lw, lm], H a = none) → H' t = some (.ins (He.ga K "Told") dt (tdf T0 false ll lg lw lm)) → H' ll = some (.lst []) → H' lg = some (.lst []) → H' lw = some (.lst []) → H' lm = some (.lst []) → Q .non H'
theorem up_none {H : Hp} {a b : Addr} {o : HO} (h : upd H a o b = none) : b ≠ a ∧ H b = none := by
  have n : b ≠ a := by
    intro z
    rw [z, upd_same] at h
    cases h
  rw [upd_ne n] at h
  exact ⟨n, h⟩
set_option maxHeartbeats 2000000 in
theorem ok_Told_init (T : Txt K mg) {fd : FuncData} (F : FunD K d_Told_init.name d_Told_init.qual d_Told_init.params d_Told_init.body d_Told_init.scope (d_Told_init.dvs K) (d_Told_init.kws K) (He.fAd K d_Told_init.at_) fd) : FnOk P w K mg base C8.CX0 1 (He.fAd K d_Told_init.at_) fd ["self"] (sp_Told_init K) := by
  refine F.ok sc_Told_init (fun vs H Q E h => ?_) (fun cdv A outer s H vs Q E hr h => ?_)
  · obtain ⟨t, dt, rfl, _⟩ := h
    rfl
  · have hu := L2.hu_of hr
    obtain ⟨t, dt, rfl, ht, q⟩ := h
    refine ⟨_, (PSs.nox ((pss_cons (ps_fld (pv 0) (pe_lst pa_nil) rfl)
  (pss_cons (ps_fld (pv 0) pe_bl rfl)
  (pss_cons (ps_fld (pv 0) (pe_lst pa_nil) rfl)
  (pss_cons (ps_fld (pv 0) pe_bl rfl)
  (pss_cons (ps_fld (pv 0) (pe_lst pa_nil) rfl)
  (pss_one (ps_fld (pv 0) (pe_lst pa_nil) rfl))))))))), ?_⟩
    refine ⟨Nat.zero_le _, fun p1 h1 => ?_⟩
    have n1 : t ≠ p1 := ne_of_none ht h1
    refine ⟨_, rfl, t, _, dt, _, rfl, (by rw [upd_ne n1]; exact ht), T.cl_Told, T.no_Told_letters, (by show 0 < 1000; decide), ?_⟩
    refine ⟨_, rfl, t, _, dt, _, rfl, upd_same, T.cl_Told, T.no_Told_opened, (by show 1 < 1000; decide), ?_⟩
    refine ⟨Nat.zero_le _, fun p2 h2 => ?_⟩
    obtain ⟨a2, h2⟩ := up_none h2
    obtain ⟨_, h2⟩ := up_none h2
    obtain ⟨b2, h2⟩ := up_none h2
    refine ⟨_, rfl, t, _, dt, _, rfl, (by rw [upd_ne a2.symm]; exact upd_same), T.cl_Told, T.no_Told_got, (by show 2 < 1000; decide), ?_⟩
    refine ⟨_, rfl, t, _, dt, _, rfl, upd_same, T.cl_Told, T.no_Told_lays, (by show 3 < 1000; decide), ?_⟩
    refine ⟨Nat.zero_le _, fun p3 h3 => ?_⟩
    obtain ⟨a3, h3⟩ := up_none h3
    obtain ⟨_, h3⟩ := up_none h3
    obtain ⟨c3, h3⟩ := up_none h3
    obtain ⟨_, h3⟩ := up_none h3
    obtain ⟨_, h3⟩ := up_none h3
    obtain ⟨b3, h3⟩ := up_none h3
    refine ⟨_, rfl, t, _, dt, _, rfl, (by rw [upd_ne a3.symm]; exact upd_same), T.cl_Told, T.no_Told_wrongs, (by show 4 < 1000; decide), ?_⟩
    refine ⟨Nat.zero_le _, fun p4 h4 => ?_⟩
    obtain ⟨a4, h4⟩ := up_none h4
    obtain ⟨d4, h4⟩ := up_none h4
    obtain ⟨_, h4⟩ := up_none h4
    obtain ⟨_, h4⟩ := up_none h4
    obtain ⟨c4, h4⟩ := up_none h4
    obtain ⟨_, h4⟩ := up_none h4
    obtain ⟨_, h4⟩ := up_none h4
    obtain ⟨b4, h4⟩ := up_none h4
    refine ⟨_, rfl, t, _, dt, _, rfl, (by rw [upd_ne a4.symm]; exact upd_same), T.cl_Told, T.no_Told_moments, (by show 5 < 1000; decide), ?_⟩
    have nt : t ∈ [t] := by simp
    refine q _ p1 p2 p3 p4 ?_ ?_ ?_ upd_same ?_ ?_ ?_ ?_
    · exact (((((((((((But.refl [t] H).put (.inl h1)).put (.inr nt)).put (.inr nt)).put (.inl h2)).put (.inr nt)).put (.inr nt)).put (.inl h3)).put (.inr nt)).put (.inl h4)).put (.inr nt))
    · simp only [List.nodup_cons, List.mem_cons, List.not_mem_nil, or_false, not_or, not_false_eq_true, List.nodup_nil, and_true]
      exact ⟨⟨b2.symm, b3.symm, b4.symm⟩, ⟨c3.symm, c4.symm⟩, d4.symm⟩
    · intro a ha
      simp only [List.mem_cons, List.not_mem_nil, or_false] at ha
      rcases ha with rfl | rfl | rfl | rfl <;> assumption
    · rw [upd_ne n1.symm, upd_ne b4.symm, upd_ne n1.symm, upd_ne b3.symm, upd_ne n1.symm, upd_ne n1.symm, upd_ne b2.symm, upd_ne n1.symm, upd_ne n1.symm, upd_same]
    · rw [upd_ne a2, upd_ne c4.symm, upd_ne a2, upd_ne c3.symm, upd_ne a2, upd_ne a2, upd_same]
    · rw [upd_ne a3, upd_ne d4.symm, upd_ne a3, upd_same]
    · rw [upd_ne a4, upd_same]
theorem c_Told_init (T : Txt K mg) : C8.Mak P w K mg base 1 "Told" (He.ga K "Told") (sp_Told_init K) [] := by
  obtain ⟨fd, F⟩ := T.f_Told_init
  exact ⟨_, fd, _, _, T.mk_Told, ok_Told_init T F, T.g_Told, F.bindsN (fun _ _ _ _ _ _ us hl => match us, hl with | [_], _ => rfl), .nil⟩
/-- a new told beside the box -/
theorem mkBT {H0 H H' : Hp} {b dx li dv ds dr t dt ll lg lw lm : Addr} {S : BoxS} (h : BxA K H0 H b dx li dv ds dr S) (ht : H t = none) (hdt : H dt = none) (hne : dt ≠ t) (bt : But [t] (upd (upd H dt (.own t)) t (.ins (He.ga K "Told") dt [])) H') (nd : [ll, lg, lw, lm].Nodup)
    (new : ∀ a ∈ [ll, lg, lw, lm], (upd (upd H dt (.own t)) t (.ins (He.ga K "Told") dt [])) a = none) (h1 : H' t = some (.ins (He.ga K "Told") dt (tdf T0 false ll lg lw lm))) (h2 : H' ll = some (.lst [])) (h3 : H' lg = some (.lst [])) (h4 : H' lw = some (.lst [])) (h5 : H' lm = some (.lst [])) :
    BT K H0 H' b dx li dv ds dr S t dt false ll lg lw lm T0 := by
  have s1 : Same H H' := fun c o e => bt c o (by simpa using ne_of_none e ht) (by rw [upd_ne (ne_of_none e ht), upd_ne (ne_of_none e hdt)]; exact e)
  have new2 : ∀ a ∈ [ll, lg, lw, lm], a ≠ t ∧ H a = none := fun a ha => by
    obtain ⟨x1, x2⟩ := up_none (new a ha)
    obtain ⟨_, x3⟩ := up_none x2
    exact ⟨x1, x3⟩
  have old : ∀ a ∈ [b, li, dv, ds, dr], ∃ o, H a = some o := fun a ha => by
    simp only [List.mem_cons, List.not_mem_nil, or_false] at ha
    rcases ha with rfl | rfl | rfl | rfl | rfl
    · exact ⟨_, h.hb⟩
    · exact ⟨_, h.hli⟩
    · exact ⟨_, h.hdv⟩
    · exact ⟨_, h.hds⟩
    · exact ⟨_, h.hdr⟩
  refine ⟨h.same.trans s1, ?_, ?_, s1 _ _ h.hb, s1 _ _ h.hli, s1 _ _ h.hdv, s1 _ _ h.hds, s1 _ _ h.hdr, h1, h2, h3, h4, h5⟩
  · show ([b, li, dv, ds, dr] ++ (t :: [ll, lg, lw, lm])).Nodup
    refine List.nodup_append.mpr ⟨h.nd, List.nodup_cons.mpr ⟨fun z => (new2 t z).1 rfl, nd⟩, fun x hx y hy e => ?_⟩
    subst e
    obtain ⟨o, ho⟩ := old x hx
    rcases List.mem_cons.mp hy with z | z
    · rw [z, ht] at ho
      cases ho
    · rw [(new2 x z).2] at ho
      cases ho
  · intro a ha
    have ha2 : a ∈ [b, li, dv, ds, dr] ++ (t :: [ll, lg, lw, lm]) := ha
    rcases List.mem_append.mp ha2 with z | z
    · exact h.new a z
    · rcases List.mem_cons.mp z with z | z
      · rw [z]
        exact h.same.free ht
      · exact h.same.free (new2 a z).2
theorem tupN {H0 H : Hp} {b t p : Addr} {x : BoxS × ToldS} {o : HO} (h : BTx K H0 H b t x) (hp : H p = none) : BTx K H0 (upd H p o) b t x := by
  obtain ⟨dx, li, dv, ds, dr, dt, yb, ll, lg, lw, lm, h⟩ := h
  exact ⟨dx, li, dv, ds, dr, dt, yb, ll, lg, lw, lm, h.to (same_new hp)⟩
end
end K29

namespace K29
open PySem PySem.Spec PyProof.Rows L2 My
def at_ (rs : List RuleL) (i : Nat) : RuleL := (rs[i]?).getD []
structure GoodB (rs : List RuleL) : Prop where
  len : rs.length = 8
  good : ∀ r ∈ rs, GoodRule r
theorem GoodB.get {rs : List RuleL} (h : GoodB rs) {i : Nat} (hi : i < 8) : rs[i]? = some (at_ rs i) := by
  have hl : i < rs.length := by rw [h.len]; exact hi
  unfold at_
  rw [List.getElem?_eq_getElem hl]
  rfl
theorem GoodB.six {rs : List RuleL} (h : GoodB rs) {i : Nat} (hi : i < 8) : (at_ rs i).length ≤ 6 := (h.good _ (List.mem_of_getElem? (h.get hi))).1
def passBy (S : BoxS) : BoxS × ToldS := if S.ajar = true then letTake none (S, T0) else (S, T0)
def dayF (d : Int) (rs : List RuleL) (S : BoxS) : BoxS × ToldS :=
  match S.age with
  | none => (S, T0)
  | some a => if a + 1 = d then carry (at_ rs 6) "late" ({ S with age := some (a + 1) }, T0) else ({ S with age := some (a + 1) }, T0)
def powerF (rs : List RuleL) (S : BoxS) : BoxS × ToldS := carry (at_ rs 7) "power" (S, T0)
def layIn (p : Int) (l : Bool) (x : BoxS × ToldS) : BoxS × ToldS :=
  if l = true ∧ x.1.ajar = true then ({ x.1 with inside := x.1.inside ++ [p] }, { x.2 with wrongs := if x.1.inside.isEmpty = true then x.2.wrongs else x.2.wrongs ++ [("two" : Str)] }) else x
def bringF (rs : List RuleL) (p : Int) (l s : Bool) (S : BoxS) : BoxS × ToldS :=
  if S.tf = "free" then goAway s "laid" "left" (at_ rs 1) (at_ rs 2) (layIn p l (carry (at_ rs 0) "given" ({ S with ajar := true, age := some 0, last := some p }, { T0 with opened := true }))) else (S, T0)
section
variable {P : Program} {w : World} {K : PySem.W.Frag} {mg : Str → Option Value} {base : Heap}
def sp_Box_pass_by (K : PySem.W.Frag) : Sp := fun vs H Q _ => ∃ (H0 : Hp) (b : Addr) (S : BoxS) (n : Nat), vs = [.ref b] ∧ Bx K H0 H b S ∧ Bd n (S, T0) ∧ n < 900000 ∧ ∀ H' t, BTx K H0 H' b t (passBy S) → Q (.ref t) H'
set_option maxHeartbeats 2000000 in
theorem ok_Box_pass_by (T : Txt K mg) {fd : FuncData} (F : FunD K d_Box_pass_by.name d_Box_pass_by.qual d_Box_pass_by.params d_Box_pass_by.body d_Box_pass_by.scope (d_Box_pass_by.dvs K) (d_Box_pass_by.kws K) (He.fAd K d_Box_pass_by.at_) fd) : FnOk P w K mg base C8.CX0 3 (He.fAd K d_Box_pass_by.at_) fd ["self"] (sp_Box_pass_by K) := by
  have c_Box_let_take := c_Box_let_take (P := P) (w := w) (base := base) T
  have c_Told_init := c_Told_init (P := P) (w := w) (base := base) T
  refine F.ok sc_Box_pass_by (fun vs H Q E h => ?_) (fun cdv A outer s H vs Q E hr h => ?_)
  · obtain ⟨H0, b, S, n, rfl, _⟩ := h
    rfl
  · have hu := L2.hu_of hr
    obtain ⟨H0, b, S, n, rfl, ⟨dx, li, dv, ds, dr, hB⟩, bd, hn, q⟩ := h
    refine ⟨_, (PSs.nox ((pss_cons (ps_set (i := 1) sc_Box_pass_by.nd rfl (by first | exact Or.inl rfl | exact Or.inr rfl) (My.pe_mk0 c_Told_init hr (by decide) rfl))
  (pss_cons (ps_if (pt_val (My.pe_fldK (K := K) rfl (pv 0) rfl))
  (pss_one (ps_expr (C8.pe_mt c_Box_let_take hr (by decide) (pv 0) (pa_cons pe_non (pa_cons (pv 1) pa_nil)))))
  pss_nil)
  (pss_one (ps_ret (pv 1))))))), ?_⟩
    intro t dt nt ndt nex
    refine ⟨t, dt, rfl, upd_same, fun H1 ll lg lw lm bt nd new h1 h2 h3 h4 h5 => ⟨rfl, ?_⟩⟩
    have h := mkBT hB nt ndt nex bt nd new h1 h2 h3 h4 h5
    refine ⟨_, rfl, b, _, dx, _, _, rfl, h.hb, T.cl_Box, T.no_Box_ajar, rfl, _, rfl, ?_⟩
    unfold passBy at q
    cases c : S.ajar with
    | false =>
      rw [if_neg (by rw [c]; exact Bool.false_ne_true)] at q
      exact ⟨_, rfl, q _ _ ⟨dx, li, dv, ds, dr, dt, _, ll, lg, lw, lm, h⟩⟩
    | true =>
      rw [if_pos c] at q
      exact ⟨_, rfl, b, dx, _, rfl, h.hb, rfl, _, rfl, H0, b, t, none, (S, T0), n, rfl, ⟨dx, li, dv, ds, dr, dt, _, ll, lg, lw, lm, h⟩, bd, by omega, fun H2 hx => ⟨_, rfl, q _ _ hx⟩⟩
theorem c_Box_pass_by (T : Txt K mg) : C8.Met P w K mg base 3 (He.ga K "Box") "pass_by" (sp_Box_pass_by K) [] := by
  obtain ⟨fd, F⟩ := T.f_Box_pass_by
  exact ⟨_, fd, _, _, T.cl_Box, T.m_Box_pass_by, ok_Box_pass_by T F, F.bindsN (fun _ _ _ _ _ _ us hl => match us, hl with | [_], _ => rfl), .nil⟩
def sp_Box_power (K : PySem.W.Frag) : Sp := fun vs H Q _ => ∃ (H0 : Hp) (b k : Addr) (d : Int) (rs : List RuleL) (S : BoxS) (n : Nat), vs = [.ref b, .ref k] ∧ Bx K H0 H b S ∧ BookAt K H0 k d rs ∧ GoodB rs ∧ Bd n (S, T0) ∧ n < 900000 ∧ ∀ H' t, BTx K H0 H' b t (powerF rs S) → Q (.ref t) H'
set_option maxHeartbeats 2000000 in
theorem ok_Box_power (T : Txt K mg) {fd : FuncData} (F : FunD K d_Box_power.name d_Box_power.qual d_Box_power.params d_Box_power.body d_Box_power.scope (d_Box_power.dvs K) (d_Box_power.kws K) (He.fAd K d_Box_power.at_) fd) : FnOk P w K mg base C8.CX0 4 (He.fAd K d_Box_power.at_) fd ["self", "book"] (sp_Box_power K) := by
  have c_Box_carry_out := c_Box_carry_out (P := P) (w := w) (base := base) T
  have c_Told_init := c_Told_init (P := P) (w := w) (base := base) T
  refine F.ok sc_Box_power (fun vs H Q E h => ?_) (fun cdv A outer s H vs Q E hr h => ?_)
  · obtain ⟨H0, b, k, d, rs, S, n, rfl, _⟩ := h
    rfl
  · have hu := L2.hu_of hr
    obtain ⟨H0, b, k, d, rs, S, n, rfl, ⟨dx, li, dv, ds, dr, hB⟩, hk, hg, bd, hn, q⟩ := h
    refine ⟨_, (PSs.nox ((pss_cons (ps_set (i := 2) sc_Box_power.nd rfl (by first | exact Or.inl rfl | exact Or.inr rfl) (My.pe_mk0 c_Told_init hr (by decide) rfl))
  (pss_cons (ps_expr (C8.pe_mt c_Box_carry_out hr (by decide) (pv 0) (pa_cons (pv 1) (pa_cons pe_str (pa_cons (pv 2) pa_nil)))))
  (pss_one (ps_ret (pv 2))))))), ?_⟩
    intro t dt nt ndt nex
    refine ⟨t, dt, rfl, upd_same, fun H1 ll lg lw lm bt nd new h1 h2 h3 h4 h5 => ⟨rfl, ?_⟩⟩
    have h := mkBT hB nt ndt nex bt nd new h1 h2 h3 h4 h5
    exact ⟨_, rfl, b, dx, _, rfl, h.hb, rfl, _, rfl, _, rfl, H0, b, t, k, "power", 7, _, d, rs, (S, T0), n, rfl, ⟨dx, li, dv, ds, dr, dt, _, ll, lg, lw, lm, h⟩, hk, rfl, hg.get (by decide), hg.six (by decide), bd, by omega, fun H2 hx => ⟨_, rfl, q _ _ hx⟩⟩
theorem c_Box_power (T : Txt K mg) : C8.Met P w K mg base 4 (He.ga K "Box") "power" (sp_Box_power K) [] := by
  obtain ⟨fd, F⟩ := T.f_Box_power
  exact ⟨_, fd, _, _, T.cl_Box, T.m_Box_power, ok_Box_power T F, F.bindsN (fun _ _ _ _ _ _ us hl => match us, hl with | [_, _], _ => rfl), .nil⟩
def sp_Box_day (K : PySem.W.Frag) : Sp := fun vs H Q _ => ∃ (H0 : Hp) (b k : Addr) (d : Int) (rs : List RuleL) (S : BoxS) (n : Nat), vs = [.ref b, .ref k] ∧ Bx K H0 H b S ∧ BookAt K H0 k d rs ∧ GoodB rs ∧ Bd n (S, T0) ∧ n < 900000 ∧ ∀ H' t, BTx K H0 H' b t (dayF d rs S) → Q (.ref t) H'
set_option maxHeartbeats 2000000 in
theorem ok_Box_day (T : Txt K mg) {fd : FuncData} (F : FunD K d_Box_day.name d_Box_day.qual d_Box_day.params d_Box_day.body d_Box_day.scope (d_Box_day.dvs K) (d_Box_day.kws K) (He.fAd K d_Box_day.at_) fd) : FnOk P w K mg base C8.CX0 4 (He.fAd K d_Box_day.at_) fd ["self", "book"] (sp_Box_day K) := by
  have c_Book_days := c_Book_days (P := P) (w := w) (base := base) T
  have c_Box_carry_out := c_Box_carry_out (P := P) (w := w) (base := base) T
  have c_Told_init := c_Told_init (P := P) (w := w) (base := base) T
  refine F.ok sc_Box_day (fun vs H Q E h => ?_) (fun cdv A outer s H vs Q E hr h => ?_)
  · obtain ⟨H0, b, k, d, rs, S, n, rfl, _⟩ := h
    rfl
  · have hu := L2.hu_of hr
    obtain ⟨H0, b, k, d, rs, S, n, rfl, ⟨dx, li, dv, ds, dr, hB⟩, hk, hg, bd, hn, q⟩ := h
    refine ⟨_, (PSs.nox ((pss_cons (ps_set (i := 2) sc_Box_day.nd rfl (by first | exact Or.inl rfl | exact Or.inr rfl) (My.pe_mk0 c_Told_init hr (by decide) rfl))
  (pss_cons (ps_if (pt_cmpR op_notN (My.pe_fldK (K := K) rfl (pv 0) rfl) pe_non (nomark _))
  (pss_cons (ps_fldaug (pv 0) pe_int in_add)
  (pss_one (ps_if (pt_cmpR op_eq (My.pe_fldK (K := K) rfl (pv 0) rfl) (C8.pe_mt0 c_Book_days hr (by decide) (pv 1)) (nomark _))
  (pss_one (ps_expr (C8.pe_mt c_Box_carry_out hr (by decide) (pv 0) (pa_cons (pv 1) (pa_cons pe_str (pa_cons (pv 2) pa_nil))))))
  pss_nil)))
  pss_nil)
  (pss_one (ps_ret (pv 2))))))), ?_⟩
    intro t dt nt ndt nex
    refine ⟨t, dt, rfl, upd_same, fun H1 ll lg lw lm bt nd new h1 h2 h3 h4 h5 => ⟨rfl, ?_⟩⟩
    have h := mkBT hB nt ndt nex bt nd new h1 h2 h3 h4 h5
    refine ⟨_, rfl, b, _, dx, _, oV S.age, rfl, h.hb, T.cl_Box, T.no_Box_age, rfl, rfl, _, rfl, ?_⟩
    unfold dayF at q
    cases c : S.age with
    | none =>
      simp only [c] at q
      exact ⟨_, rfl, q _ _ ⟨dx, li, dv, ds, dr, dt, _, ll, lg, lw, lm, h⟩⟩
    | some a =>
      simp only [c] at q
      refine ⟨_, rfl, b, _, dx, _, oV S.age, rfl, h.hb, T.cl_Box, T.no_Box_age, rfl, ?_⟩
      rw [c]
      have h2 := h.set_b (S' := { S with age := some (a + 1) }) rfl rfl rfl rfl
      refine ⟨_, _, rfl, rfl, dx, _, h.hb, (by show 8 < 1000; decide), ?_⟩
      have hx2 : BTx K H0 _ b t ({ S with age := some (a + 1) }, T0) := ⟨dx, li, dv, ds, dr, dt, _, ll, lg, lw, lm, h2⟩
      have hk2 := hk.same hx2.same
      obtain ⟨dk, tk, ak, hkb, _⟩ := id hk2
      refine ⟨_, rfl, b, _, dx, _, V.int (a + 1), rfl, h2.hb, T.cl_Box, T.no_Box_age, rfl, _, rfl, k, dk, _, rfl, hkb, rfl, k, d, rs, rfl, hk2, rfl, _, rfl, ?_⟩
      by_cases e : a + 1 = d
      · rw [show decide (V.int (a + 1) = V.int d) = true from decide_eq_true (congrArg V.int e)]
        rw [if_pos e] at q
        exact ⟨_, rfl, b, dx, _, rfl, h2.hb, rfl, _, rfl, _, rfl, H0, b, t, k, "late", 6, _, d, rs, _, n, rfl, hx2, hk, rfl, hg.get (by decide), hg.six (by decide), ⟨bd.i, bd.v, bd.s, bd.r, bd.l, bd.w, bd.m⟩, by omega, fun H2 hx => ⟨_, rfl, q _ _ hx⟩⟩
      · rw [show decide (V.int (a + 1) = V.int d) = false from decide_eq_false (fun z => e (V.int.inj z))]
        rw [if_neg e] at q
        exact ⟨_, rfl, q _ _ hx2⟩
theorem c_Box_day (T : Txt K mg) : C8.Met P w K mg base 4 (He.ga K "Box") "day" (sp_Box_day K) [] := by
  obtain ⟨fd, F⟩ := T.f_Box_day
  exact ⟨_, fd, _, _, T.cl_Box, T.m_Box_day, ok_Box_day T F, F.bindsN (fun _ _ _ _ _ _ us hl => match us, hl with | [_, _], _ => rfl), .nil⟩
def sp_Box_bring (K : PySem.W.Frag) : Sp := fun vs H Q _ => ∃ (H0 : Hp) (b k : Addr) (p : Int) (l s : Bool) (d : Int) (rs : List RuleL) (S : BoxS) (n : Nat), vs = [.ref b, .ref k, .int p, .bl l, .bl s] ∧ Bx K H0 H b S ∧ BookAt K H0 k d rs ∧ GoodB rs ∧ Bd n (S, T0) ∧ n < 900000 ∧ ∀ H' t, BTx K H0 H' b t (bringF rs p l s S) → Q (.ref t) H'
theorem Bd.lay {n : Nat} {x : BoxS × ToldS} (h : Bd n x) {p : Int} {l : Bool} : Bd (n + 1) (layIn p l x) := by
  have h1 := h.mono (Nat.le_succ n)
  unfold layIn
  split
  · refine ⟨?_, h1.v, h1.s, h1.r, h1.l, ?_, h1.m⟩
    · show (x.1.inside ++ [p]).length ≤ n + 1
      rw [List.length_append]
      exact Nat.succ_le_succ h.i
    · show (if x.1.inside.isEmpty = true then x.2.wrongs else x.2.wrongs ++ [("two" : Str)]).length ≤ n + 1
      split
      · exact h1.w
      · rw [List.length_append]
        exact Nat.succ_le_succ h.w
  · exact h1
set_option maxHeartbeats 2000000 in
theorem ok_Box_bring (T : Txt K mg) {fd : FuncData} (F : FunD K d_Box_bring.name d_Box_bring.qual d_Box_bring.params d_Box_bring.body d_Box_bring.scope (d_Box_bring.dvs K) (d_Box_bring.kws K) (He.fAd K d_Box_bring.at_) fd) : FnOk P w K mg base C8.CX0 5 (He.fAd K d_Box_bring.at_) fd ["self", "book", "parcel", "lays", "shuts"] (sp_Box_bring K) := by
  have c_Box_go_away := c_Box_go_away (P := P) (w := w) (base := base) T
  have c_Box_carry_out := c_Box_carry_out (P := P) (w := w) (base := base) T
  have c_Told_init := c_Told_init (P := P) (w := w) (base := base) T
  refine F.ok sc_Box_bring (fun vs H Q E h => ?_) (fun cdv A outer s H vs Q E hr h => ?_)
  · obtain ⟨H0, b, k, p, l, s1, d, rs, S, n, rfl, _⟩ := h
    rfl
  · have hu := L2.hu_of hr
    obtain ⟨H0, b, k, p, l, s1, d, rs, S, n, rfl, ⟨dx, li, dv, ds, dr, hB⟩, hk, hg, bd, hn, q⟩ := h
    refine ⟨_, (PSs.nox ((pss_cons (ps_set (i := 5) sc_Box_bring.nd rfl (by first | exact Or.inl rfl | exact Or.inr rfl) (My.pe_mk0 c_Told_init hr (by decide) rfl))
  (pss_cons (ps_if (pt_cmpR op_ne (My.pe_fldK (K := K) rfl (pv 0) rfl) pe_str (nomark _))
  (pss_one (ps_ret (pv 5)))
  pss_nil)
  (pss_cons (ps_fld (pv 5) pe_bl rfl)
  (pss_cons (ps_fld (pv 0) pe_bl rfl)
  (pss_cons (ps_fld (pv 0) pe_int rfl)
  (pss_cons (ps_fld (pv 0) (pv 2) rfl)
  (pss_cons (ps_expr (C8.pe_mt c_Box_carry_out hr (by decide) (pv 0) (pa_cons (pv 1) (pa_cons pe_str (pa_cons (pv 5) pa_nil)))))
  (pss_cons (ps_if (PW.pt (pw_and (pt_val (pv 3)) (pw_and1 (pt_val (My.pe_fldK (K := K) rfl (pv 0) rfl)))))
  (pss_cons (ps_if (My.pt_truthK (K := K) rfl (My.pe_fldK (K := K) rfl (pv 0) rfl) (by intro _; rfl))
  (pss_one (ps_expr (My.pe_bmK (K := K) rfl PySem.F.plainAttrs_list PySem.F.slot_list_append PySem.F.type_list_append mt_append (My.pe_fldK (K := K) rfl (pv 5) rfl) (pa_cons pe_str pa_nil))))
  pss_nil)
  (pss_cons (ps_expr (My.pe_bmK (K := K) rfl PySem.F.plainAttrs_list PySem.F.slot_list_append PySem.F.type_list_append mt_append (My.pe_fldK (K := K) rfl (pv 0) rfl) (pa_cons (pv 2) pa_nil)))
  (pss_one (ps_fld (pv 5) pe_bl rfl))))
  pss_nil)
  (pss_cons (ps_expr (C8.pe_mt c_Box_go_away hr (by decide) (pv 0) (pa_cons (pv 1) (pa_cons (pv 4) (pa_cons (pe_tup (pa_cons pe_str (pa_cons pe_str pa_nil))) (pa_cons (pv 5) pa_nil))))))
  (pss_one (ps_ret (pv 5)))))))))))))), ?_⟩
    intro t dt nt ndt nex
    refine ⟨t, dt, rfl, upd_same, fun H1 ll lg lw lm bt nd new h1 h2 h3 h4 h5 => ⟨rfl, ?_⟩⟩
    have h := mkBT hB nt ndt nex bt nd new h1 h2 h3 h4 h5
    refine ⟨_, rfl, b, _, dx, _, _, rfl, h.hb, T.cl_Box, T.no_Box_taken_for, rfl, rfl, _, rfl, ?_⟩
    unfold bringF at q
    by_cases c : S.tf = "free"
    · rw [if_pos c] at q
      rw [show (!decide (V.str S.tf = V.str "free")) = false by rw [str_eqT c]; rfl]
      -- what is left behind the laying
      have last : ∀ (H2 : Hp) (x : BoxS × ToldS) (m : Nat), BTx K H0 H2 b t x → Bd m x → m < 950000 → (∀ H' t, BTx K H0 H' b t (goAway s1 "laid" "left" (at_ rs 1) (at_ rs 2) x) → Q (.ref t) H') →
          tSeq (tDrop (tMeth (He.ga K "Box") "_go_away" (sp_Box_go_away K) [] C8.E0 (tVar 0) (tCons (tVar 1) (tCons (tVar 4) (tCons (tTup (tCons (tC (.str "laid")) (tCons (tC (.str "left")) tNil))) (tCons (tVar 5) tNil)))))) (tRet (tVar 5))
            { nx := fun _ H' => Q .non H', rt := Q } [some (.ref b), some (.ref k), some (.int p), some (.bl l), some (.bl s1), some (.ref t)] H2 := by
        intro H2 x m hx bdx hm q2
        obtain ⟨dx2, li2, dv2, ds2, dr2, dt2, yb2, ll2, lg2, lw2, lm2, h2⟩ := id hx
        refine ⟨_, rfl, b, dx2, _, rfl, h2.hb, rfl, _, rfl, _, rfl, by show 2 ≤ sizeLine; decide, fun g hgn => ⟨_, rfl, ?_⟩⟩
        exact ⟨H0, b, t, k, g, s1, "laid", "left", 1, 2, _, _, d, rs, x, m, rfl, tupN hx hgn, hk, SqT.of upd_same, rfl, hg.get (by decide), hg.six (by decide), rfl, hg.get (by decide), hg.six (by decide), bdx, by omega, fun H3 hx3 => ⟨_, rfl, q2 _ _ hx3⟩⟩
      refine ⟨_, rfl, t, _, dt, _, rfl, h.ht, T.cl_Told, T.no_Told_opened, (by show 6 < 1000; decide), ?_⟩
      have g1 := h.set_t (T' := { T0 with opened := true }) rfl rfl rfl rfl
      refine ⟨_, rfl, b, _, dx, _, rfl, g1.hb, T.cl_Box, T.no_Box_ajar, (by show 8 < 1000; decide), ?_⟩
      have g2 := g1.set_b (S' := { S with ajar := true }) rfl rfl rfl rfl
      refine ⟨_, rfl, b, _, dx, _, rfl, g2.hb, T.cl_Box, T.no_Box_age, (by show 8 < 1000; decide), ?_⟩
      have g3 := g2.set_b (S' := { S with ajar := true, age := some 0 }) rfl rfl rfl rfl
      refine ⟨_, rfl, _, rfl, b, _, dx, _, rfl, g3.hb, T.cl_Box, T.no_Box_last, (by show 8 < 1000; decide), ?_⟩
      have g4 := g3.set_b (S' := { S with ajar := true, age := some 0, last := some p }) rfl rfl rfl rfl
      have hx4 : BTx K H0 _ b t ({ S with ajar := true, age := some 0, last := some p }, { T0 with opened := true }) := ⟨dx, li, dv, ds, dr, dt, _, ll, lg, lw, lm, g4⟩
      have bd4 : Bd n ({ S with ajar := true, age := some 0, last := some p }, { T0 with opened := true }) := ⟨bd.i, bd.v, bd.s, bd.r, bd.l, bd.w, bd.m⟩
      have bd5 := (bd4.carry (at_ rs 0) "given").mono (m := n + 7) (by have := hg.six (i := 0) (by decide); omega)
      refine ⟨_, rfl, b, dx, _, rfl, g4.hb, rfl, _, rfl, _, rfl, H0, b, t, k, "given", 0, _, d, rs, _, n, rfl, hx4, hk, rfl, hg.get (by decide), hg.six (by decide), bd4, by omega, fun H2 hx => ?_⟩
      have bd6 := bd5.lay (p := p) (l := l)
      generalize hy : carry (at_ rs 0) "given" ({ S with ajar := true, age := some 0, last := some p }, { T0 with opened := true }) = y at hx q bd5 bd6
      obtain ⟨Y, U⟩ := y
      have q' := fun (e : layIn p l (Y, U) = layIn p l (Y, U)) => q
      refine ⟨_, rfl, _, rfl, ?_⟩
      cases l with
      | false =>
        have e0 : layIn p false (Y, U) = (Y, U) := by
          unfold layIn
          rw [if_neg (fun z => Bool.false_ne_true z.1)]
        rw [e0] at q
        exact last _ _ _ hx bd5 (by omega) q
      | true =>
        obtain ⟨dx2, li2, dv2, ds2, dr2, dt2, yb2, ll2, lg2, lw2, lm2, h2⟩ := id hx
        refine ⟨_, rfl, b, _, dx2, _, _, rfl, h2.hb, T.cl_Box, T.no_Box_ajar, rfl, _, rfl, ?_⟩
        cases ca : Y.ajar with
        | false =>
          have e0 : layIn p true (Y, U) = (Y, U) := by
            unfold layIn
            rw [if_neg (fun z => by have := z.2; rw [show (Y, U).1.ajar = Y.ajar from rfl, ca] at this; exact Bool.false_ne_true this)]
          rw [e0] at q
          exact last _ _ _ hx bd5 (by omega) q
        | true =>
          have e0 : layIn p true (Y, U) = ({ Y with inside := Y.inside ++ [p] }, { U with wrongs := if Y.inside.isEmpty = true then U.wrongs else U.wrongs ++ [("two" : Str)] }) := by
            unfold layIn
            rw [if_pos ⟨rfl, ca⟩]
          rw [e0] at q bd6
          refine ⟨_, rfl, b, _, dx2, _, _, rfl, h2.hb, T.cl_Box, T.no_Box_inside, rfl, !(Y.inside.map V.int).isEmpty, .inl ⟨_, SqL.of h2.hli, rfl⟩, ?_⟩
          rw [List.isEmpty_map]
          have zi : Y.inside.length ≤ n + 7 := bd5.i
          have zw : U.wrongs.length ≤ n + 7 := bd5.w
          have ei : Y.inside.map V.int ++ [V.int p] = (Y.inside ++ [p]).map V.int := by rw [List.map_append]; rfl
          cases ce : Y.inside.isEmpty with
          | true =>
            rw [ce, if_pos rfl] at q bd6
            refine ⟨_, rfl, b, _, dx2, _, _, rfl, h2.hb, T.cl_Box, T.no_Box_inside, rfl, .inl ⟨rfl, _, SqL.of h2.hli⟩, _, rfl, li2, _, _, rfl, rfl, h2.hli, by rw [List.length_map]; exact lt_line (by show Y.inside.length ≤ 1000000; omega), ?_⟩
            rw [ei]
            have h3 := h2.set_li (S' := { Y with inside := Y.inside ++ [p] }) rfl
            refine ⟨_, rfl, t, _, dt2, _, rfl, h3.ht, T.cl_Told, T.no_Told_lays, (by show 6 < 1000; decide), ?_⟩
            have hx5 : BTx K H0 _ b t ({ Y with inside := Y.inside ++ [p] }, U) := ⟨dx2, li2, dv2, ds2, dr2, dt2, _, ll2, lg2, lw2, lm2, h3.set_y true⟩
            exact last _ _ _ hx5 bd6 (by omega) q
          | false =>
            rw [ce, if_neg Bool.false_ne_true] at q bd6
            refine ⟨_, rfl, t, _, dt2, _, _, rfl, h2.ht, T.cl_Told, T.no_Told_wrongs, rfl, .inl ⟨rfl, _, SqL.of h2.hlw⟩, lw2, _, _, rfl, rfl, h2.hlw, by rw [List.length_map]; exact lt_line (by show U.wrongs.length ≤ 1000000; omega), ?_⟩
            have ew : U.wrongs.map V.str ++ [V.str "two"] = (U.wrongs ++ [("two" : Str)]).map V.str := by rw [List.map_append]; rfl
            have h3 := h2.set_lw (T' := { U with wrongs := U.wrongs ++ [("two" : Str)] }) rfl
            rw [← ew] at h3
            refine ⟨_, rfl, b, _, dx2, _, _, rfl, h3.hb, T.cl_Box, T.no_Box_inside, rfl, .inl ⟨rfl, _, SqL.of h3.hli⟩, _, rfl, li2, _, _, rfl, rfl, h3.hli, by rw [List.length_map]; exact lt_line (by show Y.inside.length ≤ 1000000; omega), ?_⟩
            have h4 := h3.set_li (S' := { Y with inside := Y.inside ++ [p] }) rfl
            rw [← ei] at h4
            refine ⟨_, rfl, t, _, dt2, _, rfl, h4.ht, T.cl_Told, T.no_Told_lays, (by show 6 < 1000; decide), ?_⟩
            have hx5 : BTx K H0 _ b t ({ Y with inside := Y.inside ++ [p] }, { U with wrongs := U.wrongs ++ [("two" : Str)] }) := ⟨dx2, li2, dv2, ds2, dr2, dt2, _, ll2, lg2, lw2, lm2, h4.set_y true⟩
            exact last _ _ _ hx5 bd6 (by omega) q
    · rw [if_neg c] at q
      rw [show (!decide (V.str S.tf = V.str "free")) = true by rw [str_eqF c]; rfl]
      exact ⟨_, rfl, q _ _ ⟨dx, li, dv, ds, dr, dt, _, ll, lg, lw, lm, h⟩⟩
theorem c_Box_bring (T : Txt K mg) : C8.Met P w K mg base 5 (He.ga K "Box") "bring" (sp_Box_bring K) [] := by
  obtain ⟨fd, F⟩ := T.f_Box_bring
  exact ⟨_, fd, _, _, T.cl_Box, T.m_Box_bring, ok_Box_bring T F, F.bindsN (fun _ _ _ _ _ _ us hl => match us, hl with | [_, _, _, _, _], _ => rfl), .nil⟩
end
end K29

namespace K29
open PySem PySem.Spec PyProof.Rows L2 My
def takeIf (p : Int) (t : Bool) (x : BoxS × ToldS) : BoxS × ToldS := if t = true ∧ x.1.ajar = true then letTake (some p) x else x
def addW (c : Bool) (wd : Str) (x : BoxS × ToldS) : BoxS × ToldS := if c = true then (x.1, { x.2 with wrongs := x.2.wrongs ++ [wd] }) else x
def missF (p : Int) (S : BoxS) : Bool := decide (p ∉ S.inside) && decide (p ∉ S.served)
def codeF (rs : List RuleL) (p : Int) (t s : Bool) (S : BoxS) : BoxS × ToldS :=
  if p ∈ S.valid then goAway s "taken" "gone" (at_ rs 4) (at_ rs 5) (addW (missF p S) "empty" (takeIf p t (carry (at_ rs 3) "opened" ({ S with ajar := true }, { T0 with opened := true }))))
  else addW (decide (p ∈ S.inside) && decide (p ∈ S.sent)) "refused" (S, T0)
theorem Bd.tk {n : Nat} {x : BoxS × ToldS} (h : Bd n x) {p : Int} {t : Bool} : Bd (n + 1) (takeIf p t x) := by
  unfold takeIf
  split
  · exact h.take _
  · exact h.mono (Nat.le_succ n)
theorem Bd.aw {n : Nat} {x : BoxS × ToldS} (h : Bd n x) {c : Bool} {wd : Str} : Bd (n + 1) (addW c wd x) := by
  have h1 := h.mono (Nat.le_succ n)
  unfold addW
  split
  · refine ⟨h1.i, h1.v, h1.s, h1.r, h1.l, ?_, h1.m⟩
    show (x.2.wrongs ++ [wd]).length ≤ n + 1
    rw [List.length_append]
    exact Nat.succ_le_succ h.w
  · exact h1
section
variable {P : Program} {w : World} {K : PySem.W.Frag} {mg : Str → Option Value} {base : Heap}
def sp_Box_code (K : PySem.W.Frag) : Sp := fun vs H Q _ => ∃ (H0 : Hp) (b k : Addr) (p : Int) (l s : Bool) (d : Int) (rs : List RuleL) (S : BoxS) (n : Nat), vs = [.ref b, .ref k, .int p, .bl l, .bl s] ∧ Bx K H0 H b S ∧ BookAt K H0 k d rs ∧ GoodB rs ∧ Bd n (S, T0) ∧ n < 900000 ∧ ∀ H' t, BTx K H0 H' b t (codeF rs p l s S) → Q (.ref t) H'
set_option maxHeartbeats 2000000 in
theorem ok_Box_code (T : Txt K mg) {fd : FuncData} (F : FunD K d_Box_code.name d_Box_code.qual d_Box_code.params d_Box_code.body d_Box_code.scope (d_Box_code.dvs K) (d_Box_code.kws K) (He.fAd K d_Box_code.at_) fd) : FnOk P w K mg base C8.CX0 5 (He.fAd K d_Box_code.at_) fd ["self", "book", "parcel", "takes", "shuts"] (sp_Box_code K) := by
  have c_Box_go_away := c_Box_go_away (P := P) (w := w) (base := base) T
  have c_Box_let_take := c_Box_let_take (P := P) (w := w) (base := base) T
  have c_Box_carry_out := c_Box_carry_out (P := P) (w := w) (base := base) T
  have c_Told_init := c_Told_init (P := P) (w := w) (base := base) T
  refine F.ok sc_Box_code (fun vs H Q E h => ?_) (fun cdv A outer s H vs Q E hr h => ?_)
  · obtain ⟨H0, b, k, p, l, s1, d, rs, S, n, rfl, _⟩ := h
    rfl
  · have hu := L2.hu_of hr
    obtain ⟨H0, b, k, p, l, s1, d, rs, S, n, rfl, ⟨dx, li, dv, ds, dr, hB⟩, hk, hg, bd, hn, q⟩ := h
    refine ⟨_, (PSs.nox ((pss_cons (ps_set (i := 5) sc_Box_code.nd rfl (by first | exact Or.inl rfl | exact Or.inr rfl) (My.pe_mk0 c_Told_init hr (by decide) rfl))
  (pss_cons (ps_if (pt_cmp (pc_dnotin hu (pv 2) (My.pe_fldK (K := K) rfl (pv 0) rfl)))
  (pss_cons (ps_if (PW.pt (pw_and (pt_cmpR (My.in_seqK (K := K) rfl) (pv 2) (My.pe_fldK (K := K) rfl (pv 0) rfl) (by rfl)) (pw_and1 (pt_cmp (pc_din hu (pv 2) (My.pe_fldK (K := K) rfl (pv 0) rfl))))))
  (pss_one (ps_expr (My.pe_bmK (K := K) rfl PySem.F.plainAttrs_list PySem.F.slot_list_append PySem.F.type_list_append mt_append (My.pe_fldK (K := K) rfl (pv 5) rfl) (pa_cons pe_str pa_nil))))
  pss_nil)
  (pss_one (ps_ret (pv 5))))
  pss_nil)
  (pss_cons (ps_set (i := 6) sc_Box_code.nd rfl (by first | exact Or.inl rfl | exact Or.inr rfl) (pe_and (pe_cmpR (My.notIn_seqK (K := K) rfl) (pv 2) (My.pe_fldK (K := K) rfl (pv 0) rfl) (by rfl)) (pe_one (pe_cmp (pc_dnotin hu (pv 2) (My.pe_fldK (K := K) rfl (pv 0) rfl)) rfl))))
  (pss_cons (ps_fld (pv 5) pe_bl rfl)
  (pss_cons (ps_fld (pv 0) pe_bl rfl)
  (pss_cons (ps_expr (C8.pe_mt c_Box_carry_out hr (by decide) (pv 0) (pa_cons (pv 1) (pa_cons pe_str (pa_cons (pv 5) pa_nil)))))
  (pss_cons (ps_if (PW.pt (pw_and (pt_val (pv 3)) (pw_and1 (pt_val (My.pe_fldK (K := K) rfl (pv 0) rfl)))))
  (pss_one (ps_expr (C8.pe_mt c_Box_let_take hr (by decide) (pv 0) (pa_cons (pv 2) (pa_cons (pv 5) pa_nil)))))
  pss_nil)
  (pss_cons (ps_if (pt_val (pv 6))
  (pss_one (ps_expr (My.pe_bmK (K := K) rfl PySem.F.plainAttrs_list PySem.F.slot_list_append PySem.F.type_list_append mt_append (My.pe_fldK (K := K) rfl (pv 5) rfl) (pa_cons pe_str pa_nil))))
  pss_nil)
  (pss_cons (ps_expr (C8.pe_mt c_Box_go_away hr (by decide) (pv 0) (pa_cons (pv 1) (pa_cons (pv 4) (pa_cons (pe_tup (pa_cons pe_str (pa_cons pe_str pa_nil))) (pa_cons (pv 5) pa_nil))))))
  (pss_one (ps_ret (pv 5)))))))))))))), ?_⟩
    intro t dt nt ndt nex
    refine ⟨t, dt, rfl, upd_same, fun H1 ll lg lw lm bt nd new h1 h2 h3 h4 h5 => ⟨rfl, ?_⟩⟩
    have h := mkBT hB nt ndt nex bt nd new h1 h2 h3 h4 h5
    refine ⟨_, rfl, _, rfl, b, _, dx, _, _, rfl, h.hb, T.cl_Box, T.no_Box_valid, rfl, dv, _, rfl, DGet.k (k := Sum.inl p) h.hdv, _, rfl, ?_⟩
    rw [valV_kvT]
    have sent_in : ∀ (A B : Prop) (x : Bool), (x = true → A) → (x = false → B) → if x = true then A else B := fun A B x ha hb => by
      cases x with
      | true => exact ha rfl
      | false => exact hb rfl
    unfold codeF at q
    by_cases c : p ∈ S.valid
    · rw [if_pos c] at q
      rw [decide_eq_true c]
      -- behind the taking: the word, the going away
      have last : ∀ (H2 : Hp) (x : BoxS × ToldS) (m : Nat), BTx K H0 H2 b t x → Bd m x → m < 950000 → (∀ H' t, BTx K H0 H' b t (goAway s1 "taken" "gone" (at_ rs 4) (at_ rs 5) x) → Q (.ref t) H') →
          tSeq (tDrop (tMeth (He.ga K "Box") "_go_away" (sp_Box_go_away K) [] C8.E0 (tVar 0) (tCons (tVar 1) (tCons (tVar 4) (tCons (tTup (tCons (tC (.str "taken")) (tCons (tC (.str "gone")) tNil))) (tCons (tVar 5) tNil)))))) (tRet (tVar 5))
            { nx := fun _ H' => Q .non H', rt := Q } [some (.ref b), some (.ref k), some (.int p), some (.bl l), some (.bl s1), some (.ref t), some (.bl (missF p S))] H2 := by
        intro H2 x m hx bdx hm q2
        obtain ⟨dx2, li2, dv2, ds2, dr2, dt2, yb2, ll2, lg2, lw2, lm2, h2⟩ := id hx
        refine ⟨_, rfl, b, dx2, _, rfl, h2.hb, rfl, _, rfl, _, rfl, by show 2 ≤ sizeLine; decide, fun g hgn => ⟨_, rfl, ?_⟩⟩
        exact ⟨H0, b, t, k, g, s1, "taken", "gone", 4, 5, _, _, d, rs, x, m, rfl, tupN hx hgn, hk, SqT.of upd_same, rfl, hg.get (by decide), hg.six (by decide), rfl, hg.get (by decide), hg.six (by decide), bdx, by omega, fun H3 hx3 => ⟨_, rfl, q2 _ _ hx3⟩⟩
      have last2 : ∀ (H2 : Hp) (x : BoxS × ToldS) (m : Nat), BTx K H0 H2 b t x → Bd m x → m < 940000 → (∀ H' t, BTx K H0 H' b t (goAway s1 "taken" "gone" (at_ rs 4) (at_ rs 5) (addW (missF p S) "empty" x)) → Q (.ref t) H') →
          tSeq (tIfS (tB (tVar 6)) (tDrop (tBM K "list" rAppend (tFld K (tVar 5) "wrongs") (tCons (tC (.str "empty")) tNil))) tNext) (tSeq (tDrop (tMeth (He.ga K "Box") "_go_away" (sp_Box_go_away K) [] C8.E0 (tVar 0) (tCons (tVar 1) (tCons (tVar 4) (tCons (tTup (tCons (tC (.str "taken")) (tCons (tC (.str "gone")) tNil))) (tCons (tVar 5) tNil)))))) (tRet (tVar 5)))
            { nx := fun _ H' => Q .non H', rt := Q } [some (.ref b), some (.ref k), some (.int p), some (.bl l), some (.bl s1), some (.ref t), some (.bl (missF p S))] H2 := by
        intro H2 x m hx bdx hm q2
        refine ⟨_, rfl, _, rfl, ?_⟩
        unfold addW at q2
        refine sent_in _ _ _ (fun e => ?_) (fun e => ?_)
        · rw [if_pos e] at q2
          obtain ⟨Y, U⟩ := x
          obtain ⟨dx2, li2, dv2, ds2, dr2, dt2, yb2, ll2, lg2, lw2, lm2, h2⟩ := id hx
          have zw : U.wrongs.length ≤ m := bdx.w
          refine ⟨_, rfl, t, _, dt2, _, _, rfl, h2.ht, T.cl_Told, T.no_Told_wrongs, rfl, .inl ⟨rfl, _, SqL.of h2.hlw⟩, lw2, _, _, rfl, rfl, h2.hlw, by rw [List.length_map]; exact lt_line (by show U.wrongs.length ≤ 1000000; omega), ?_⟩
          have ew : U.wrongs.map V.str ++ [V.str "empty"] = (U.wrongs ++ [("empty" : Str)]).map V.str := by rw [List.map_append]; rfl
          have h3 := h2.set_lw (T' := { U with wrongs := U.wrongs ++ [("empty" : Str)] }) rfl
          rw [← ew] at h3
          refine last _ _ (m + 1) ⟨dx2, li2, dv2, ds2, dr2, dt2, yb2, ll2, lg2, lw2, lm2, h3⟩ ?_ (by omega) q2
          have := bdx.aw (c := true) (wd := "empty")
          exact this
        · rw [if_neg (by rw [e]; exact Bool.false_ne_true)] at q2
          exact last _ _ _ hx bdx (by omega) q2
      refine ⟨_, rfl, _, rfl, b, _, dx, _, _, rfl, h.hb, T.cl_Box, T.no_Box_inside, rfl, li, _, rfl, .inl (SqL.of h.hli), rfl, all_flat_int _, _, rfl, ?_⟩
      rw [show (if true = true then !inV (.int p) (S.inside.map V.int) else inV (.int p) (S.inside.map V.int)) = decide (p ∉ S.inside) by rw [if_pos rfl, inV_int, ← decide_not]]
      -- missing stands in slot 6
      have mid : ∀ (tl : TS), (tl { nx := fun _ H' => Q .non H', rt := Q } [some (.ref b), some (.ref k), some (.int p), some (.bl l), some (.bl s1), some (.ref t), some (.bl (missF p S))] H1) →
          (if decide (p ∉ S.inside) = true then tOp rEq (tC .non) (tC .non) [] H1 (fun _ _ => True) else True) → True := fun _ _ _ => trivial
      have fin : tSeq (sFld K (tVar 5) (tC (.bl true)) "opened") (tSeq (sFld K (tVar 0) (tC (.bl true)) "ajar") (tSeq (tDrop (tMeth (He.ga K "Box") "_carry_out" (sp_Box_carry_out K) [] C8.E0 (tVar 0) (tCons (tVar 1) (tCons (tC (.str "opened")) (tCons (tVar 5) tNil)))))
          (tSeq (tIfS (tAnd (tB (tVar 3)) (tB (tFld K (tVar 0) "ajar"))) (tDrop (tMeth (He.ga K "Box") "_let_take" (sp_Box_let_take K) [] C8.E0 (tVar 0) (tCons (tVar 2) (tCons (tVar 5) tNil)))) tNext)
            (tSeq (tIfS (tB (tVar 6)) (tDrop (tBM K "list" rAppend (tFld K (tVar 5) "wrongs") (tCons (tC (.str "empty")) tNil))) tNext) (tSeq (tDrop (tMeth (He.ga K "Box") "_go_away" (sp_Box_go_away K) [] C8.E0 (tVar 0) (tCons (tVar 1) (tCons (tVar 4) (tCons (tTup (tCons (tC (.str "taken")) (tCons (tC (.str "gone")) tNil))) (tCons (tVar 5) tNil)))))) (tRet (tVar 5)))))))
          { nx := fun _ H' => Q .non H', rt := Q } [some (.ref b), some (.ref k), some (.int p), some (.bl l), some (.bl s1), some (.ref t), some (.bl (missF p S))] H1 := by
        refine ⟨_, rfl, t, _, dt, _, rfl, h.ht, T.cl_Told, T.no_Told_opened, (by show 6 < 1000; decide), ?_⟩
        have g1 := h.set_t (T' := { T0 with opened := true }) rfl rfl rfl rfl
        refine ⟨_, rfl, b, _, dx, _, rfl, g1.hb, T.cl_Box, T.no_Box_ajar, (by show 8 < 1000; decide), ?_⟩
        have g2 := g1.set_b (S' := { S with ajar := true }) rfl rfl rfl rfl
        have hx2 : BTx K H0 _ b t ({ S with ajar := true }, { T0 with opened := true }) := ⟨dx, li, dv, ds, dr, dt, _, ll, lg, lw, lm, g2⟩
        have bd2 : Bd n ({ S with ajar := true }, { T0 with opened := true }) := ⟨bd.i, bd.v, bd.s, bd.r, bd.l, bd.w, bd.m⟩
        have bd3 := (bd2.carry (at_ rs 3) "opened").mono (m := n + 7) (by have := hg.six (i := 3) (by decide); omega)
        refine ⟨_, rfl, b, dx, _, rfl, g2.hb, rfl, _, rfl, _, rfl, H0, b, t, k, "opened", 3, _, d, rs, _, n, rfl, hx2, hk, rfl, hg.get (by decide), hg.six (by decide), bd2, by omega, fun H2 hx => ?_⟩
        generalize hy : carry (at_ rs 3) "opened" ({ S with ajar := true }, { T0 with opened := true }) = y at hx q bd3
        obtain ⟨Y, U⟩ := y
        refine ⟨_, rfl, _, rfl, ?_⟩
        cases l with
        | false =>
          have e0 : takeIf p false (Y, U) = (Y, U) := by
            unfold takeIf
            rw [if_neg (fun z => Bool.false_ne_true z.1)]
          rw [e0] at q
          exact last2 _ _ _ hx bd3 (by omega) q
        | true =>
          obtain ⟨dx2, li2, dv2, ds2, dr2, dt2, yb2, ll2, lg2, lw2, lm2, h2⟩ := id hx
          refine ⟨_, rfl, b, _, dx2, _, _, rfl, h2.hb, T.cl_Box, T.no_Box_ajar, rfl, _, rfl, ?_⟩
          cases ca : Y.ajar with
          | false =>
            have e0 : takeIf p true (Y, U) = (Y, U) := by
              unfold takeIf
              rw [if_neg (fun z => by have := z.2; rw [show (Y, U).1.ajar = Y.ajar from rfl, ca] at this; exact Bool.false_ne_true this)]
            rw [e0] at q
            exact last2 _ _ _ hx bd3 (by omega) q
          | true =>
            have e0 : takeIf p true (Y, U) = letTake (some p) (Y, U) := by
              unfold takeIf
              rw [if_pos ⟨rfl, ca⟩]
            rw [e0] at q
            exact ⟨_, rfl, b, dx2, _, rfl, h2.hb, rfl, _, rfl, _, rfl, H0, b, t, some p, (Y, U), n + 7, rfl, hx, bd3, by omega, fun H3 hx3 => last2 _ _ (n + 8) hx3 (bd3.take _) (by omega) q⟩
      unfold missF at fin
      by_cases ci : p ∈ S.inside
      · rw [decide_eq_false (fun z => z ci)] at fin ⊢
        exact fin
      · rw [decide_eq_true ci] at fin ⊢
        refine ⟨_, rfl, _, rfl, b, _, dx, _, _, rfl, h.hb, T.cl_Box, T.no_Box_served, rfl, dr, _, rfl, DGet.k (k := Sum.inl p) h.hdr, ?_⟩
        rw [valV_kvT, ← decide_not]
        exact fin
    · rw [if_neg c] at q
      rw [decide_eq_false c]
      refine ⟨_, rfl, _, rfl, b, _, dx, _, _, rfl, h.hb, T.cl_Box, T.no_Box_inside, rfl, li, _, rfl, .inl (SqL.of h.hli), rfl, all_flat_int _, _, rfl, ?_⟩
      rw [show (if false = true then !inV (.int p) (S.inside.map V.int) else inV (.int p) (S.inside.map V.int)) = decide (p ∈ S.inside) by rw [if_neg Bool.false_ne_true, inV_int]]
      have hx : BTx K H0 H1 b t (S, T0) := ⟨dx, li, dv, ds, dr, dt, _, ll, lg, lw, lm, h⟩
      by_cases ci : p ∈ S.inside
      · rw [decide_eq_true ci]
        rw [decide_eq_true ci] at q
        refine ⟨_, rfl, _, rfl, b, _, dx, _, _, rfl, h.hb, T.cl_Box, T.no_Box_sent, rfl, ds, _, rfl, DGet.k (k := Sum.inl p) h.hds, _, rfl, ?_⟩
        rw [valV_kvT]
        by_cases cs : p ∈ S.sent
        · rw [decide_eq_true cs]
          rw [decide_eq_true cs] at q
          refine ⟨_, rfl, t, _, dt, _, _, rfl, h.ht, T.cl_Told, T.no_Told_wrongs, rfl, .inl ⟨rfl, _, SqL.of h.hlw⟩, lw, _, _, rfl, rfl, h.hlw, by show 0 < sizeLine; decide, ?_⟩
          have h3 := h.set_lw (T' := { T0 with wrongs := [("refused" : Str)] }) rfl
          exact ⟨_, rfl, q _ _ ⟨dx, li, dv, ds, dr, dt, _, ll, lg, lw, lm, h3⟩⟩
        · rw [decide_eq_false cs]
          rw [decide_eq_false cs] at q
          exact ⟨_, rfl, q _ _ hx⟩
      · rw [decide_eq_false ci]
        rw [decide_eq_false ci] at q
        exact ⟨_, rfl, q _ _ hx⟩
theorem c_Box_code (T : Txt K mg) : C8.Met P w K mg base 5 (He.ga K "Box") "code" (sp_Box_code K) [] := by
  obtain ⟨fd, F⟩ := T.f_Box_code
  exact ⟨_, fd, _, _, T.cl_Box, T.m_Box_code, ok_Box_code T F, F.bindsN (fun _ _ _ _ _ _ us hl => match us, hl with | [_, _, _, _, _], _ => rfl), .nil⟩
end
end K29

namespace K29
open PySem PySem.Spec PyProof.Rows L2 My
def doF (rs : List RuleL) (d : Int) (n : Int) (x : Deed) (S : BoxS) : BoxS × ToldS :=
  match x with
  | .bring l s => bringF rs n l s S
  | .code p t s => codeF rs p t s S
  | .pass => passBy S
  | .day => dayF d rs S
  | .power => powerF rs S
theorem Bd.self {n : Nat} {x : BoxS × ToldS} (h : Bd n x) : Bd n (x.1, T0) := ⟨h.i, h.v, h.s, h.r, Nat.zero_le _, Nat.zero_le _, Nat.zero_le _⟩
theorem Bd.doF {n : Nat} {S : BoxS} {rs : List RuleL} {d k : Int} {x : Deed} (hg : GoodB rs) (h : Bd n (S, T0)) : Bd (n + 16) (doF rs d k x S) := by
  have l6 := fun (i : Nat) (hi : i < 8) => hg.six (i := i) hi
  cases x with
  | bring l s =>
    show Bd (n + 16) (bringF rs k l s S)
    unfold bringF
    split
    · have b1 : Bd n ({ S with ajar := true, age := some 0, last := some k }, { T0 with opened := true }) := ⟨h.i, h.v, h.s, h.r, h.l, h.w, h.m⟩
      have b2 := (b1.carry (at_ rs 0) "given").mono (m := n + 7) (by have := l6 0 (by decide); omega)
      exact (((b2.lay (p := k) (l := l)).go (sh := s) (m1 := "laid") (m2 := "left") (l6 1 (by decide)) (l6 2 (by decide))).mono (by omega))
    · exact h.mono (by omega)
  | code p t s =>
    show Bd (n + 16) (codeF rs p t s S)
    unfold codeF
    split
    · have b1 : Bd n ({ S with ajar := true }, { T0 with opened := true }) := ⟨h.i, h.v, h.s, h.r, h.l, h.w, h.m⟩
      have b2 := (b1.carry (at_ rs 3) "opened").mono (m := n + 7) (by have := l6 3 (by decide); omega)
      exact ((((b2.tk (p := p) (t := t)).aw (c := missF p S) (wd := "empty")).go (sh := s) (m1 := "taken") (m2 := "gone") (l6 4 (by decide)) (l6 5 (by decide))).mono (by omega))
    · exact (h.aw).mono (by omega)
  | pass =>
    show Bd (n + 16) (passBy S)
    unfold passBy
    split
    · exact (h.take none).mono (by omega)
    · exact h.mono (by omega)
  | day =>
    show Bd (n + 16) (dayF d rs S)
    unfold dayF
    split
    · exact h.mono (by omega)
    · rename_i a _
      split
      · have b1 : Bd n ({ S with age := some (a + 1) }, T0) := ⟨h.i, h.v, h.s, h.r, h.l, h.w, h.m⟩
        exact (b1.carry (at_ rs 6) "late").mono (by have := l6 6 (by decide); omega)
      · exact (show Bd n ({ S with age := some (a + 1) }, T0) from ⟨h.i, h.v, h.s, h.r, h.l, h.w, h.m⟩).mono (by omega)
  | power =>
    show Bd (n + 16) (powerF rs S)
    unfold powerF
    exact (h.carry (at_ rs 7) "power").mono (by have := l6 7 (by decide); omega)
section
variable {P : Program} {w : World} {K : PySem.W.Frag} {mg : Str → Option Value} {base : Heap}
def sp_do_deed (K : PySem.W.Frag) : Sp := fun vs H Q _ => ∃ (H0 : Hp) (b k : Addr) (v : V) (x : Deed) (p : Int) (d : Int) (rs : List RuleL) (S : BoxS) (n : Nat), vs = [.ref k, .ref b, v, .int p] ∧ DeedAt K H v x ∧ Bx K H0 H b S ∧ BookAt K H0 k d rs ∧ GoodB rs ∧ Bd n (S, T0) ∧ n < 900000 ∧ ∀ H' t, BTx K H0 H' b t (doF rs d p x S) → Q (.ref t) H'
set_option maxHeartbeats 2000000 in
theorem ok_do_deed (T : Txt K mg) {fd : FuncData} (F : FunD K d_do_deed.name d_do_deed.qual d_do_deed.params d_do_deed.body d_do_deed.scope (d_do_deed.dvs K) (d_do_deed.kws K) (He.fAd K d_do_deed.at_) fd) : FnOk P w K mg base C8.CX0 6 (He.fAd K d_do_deed.at_) fd ["book", "box", "deed", "parcel"] (sp_do_deed K) := by
  have c_Box_power := c_Box_power (P := P) (w := w) (base := base) T
  have c_Box_day := c_Box_day (P := P) (w := w) (base := base) T
  have c_Box_pass_by := c_Box_pass_by (P := P) (w := w) (base := base) T
  have c_Box_code := c_Box_code (P := P) (w := w) (base := base) T
  have c_Box_bring := c_Box_bring (P := P) (w := w) (base := base) T
  refine F.ok sc_do_deed (fun vs H Q E h => ?_) (fun cdv A outer s H vs Q E hr h => ?_)
  · obtain ⟨H0, b, k, v, x, p, d, rs, S, n, rfl, _⟩ := h
    rfl
  · have hu := L2.hu_of hr
    obtain ⟨H0, b, k, v, x, p, d, rs, S, n, rfl, ⟨a, rfl, ha⟩, hB, hk, hg, bd, hn, q⟩ := h
    obtain ⟨dx, li, dv, ds, dr, hb⟩ := id hB
    refine ⟨_, (PSs.nox ((pss_cons (ps_set (i := 4) sc_do_deed.nd rfl (by first | exact Or.inl rfl | exact Or.inr rfl) (pe_ix (My.ix_tupK (K := K) rfl) (pv 2) pe_int (fun _ _ => rfl)))
  (pss_cons (ps_if (pt_cmpR op_eq (pv 4) pe_str (nomark _))
  (pss_one (ps_ret (C8.pe_mt c_Box_bring hr (by decide) (pv 1) (pa_cons (pv 0) (pa_cons (pv 3) (pa_cons (pe_ix (My.ix_tupK (K := K) rfl) (pv 2) pe_int (fun _ _ => rfl)) (pa_cons (pe_ix (My.ix_tupK (K := K) rfl) (pv 2) pe_int (fun _ _ => rfl)) pa_nil)))))))
  pss_nil)
  (pss_cons (ps_if (pt_cmpR op_eq (pv 4) pe_str (nomark _))
  (pss_one (ps_ret (C8.pe_mt c_Box_code hr (by decide) (pv 1) (pa_cons (pv 0) (pa_cons (pe_ix (My.ix_tupK (K := K) rfl) (pv 2) pe_int (fun _ _ => rfl)) (pa_cons (pe_ix (My.ix_tupK (K := K) rfl) (pv 2) pe_int (fun _ _ => rfl)) (pa_cons (pe_ix (My.ix_tupK (K := K) rfl) (pv 2) pe_int (fun _ _ => rfl)) pa_nil)))))))
  pss_nil)
  (pss_cons (ps_if (pt_cmpR op_eq (pv 4) pe_str (nomark _))
  (pss_one (ps_ret (C8.pe_mt0 c_Box_pass_by hr (by decide) (pv 1))))
  pss_nil)
  (pss_cons (ps_if (pt_cmpR op_eq (pv 4) pe_str (nomark _))
  (pss_one (ps_ret (C8.pe_mt c_Box_day hr (by decide) (pv 1) (pa_cons (pv 0) pa_nil))))
  pss_nil)
  (pss_one (ps_ret (C8.pe_mt c_Box_power hr (by decide) (pv 1) (pa_cons (pv 0) pa_nil))))))))))), ?_⟩
    have w0 : atI x.vs 0 = some (.str x.w) := by cases x <;> rfl
    refine ⟨_, rfl, a, _, _, _, rfl, rfl, ha, w0, ?_⟩
    refine ⟨_, rfl, rfl, _, rfl, ?_⟩
    cases x with
    | bring l s => exact ⟨_, rfl, b, dx, _, rfl, hb.hb, rfl, _, rfl, _, rfl, _, rfl, a, _, _, _, rfl, rfl, ha, rfl, _, rfl, a, _, _, _, rfl, rfl, ha, rfl, H0, b, k, p, l, s, d, rs, S, n, rfl, hB, hk, hg, bd, hn, q⟩
    | code p1 t s =>
      refine ⟨_, rfl, rfl, _, rfl, ?_⟩
      exact ⟨_, rfl, b, dx, _, rfl, hb.hb, rfl, _, rfl, _, rfl, a, _, _, _, rfl, rfl, ha, rfl, _, rfl, a, _, _, _, rfl, rfl, ha, rfl, _, rfl, a, _, _, _, rfl, rfl, ha, rfl, H0, b, k, p1, t, s, d, rs, S, n, rfl, hB, hk, hg, bd, hn, q⟩
    | pass =>
      refine ⟨_, rfl, rfl, _, rfl, ?_⟩
      refine ⟨_, rfl, rfl, _, rfl, ?_⟩
      exact ⟨_, rfl, b, dx, _, rfl, hb.hb, rfl, H0, b, S, n, rfl, hB, bd, hn, q⟩
    | day =>
      refine ⟨_, rfl, rfl, _, rfl, ?_⟩
      refine ⟨_, rfl, rfl, _, rfl, ?_⟩
      refine ⟨_, rfl, rfl, _, rfl, ?_⟩
      exact ⟨_, rfl, b, dx, _, rfl, hb.hb, rfl, _, rfl, H0, b, k, d, rs, S, n, rfl, hB, hk, hg, bd, hn, q⟩
    | power =>
      refine ⟨_, rfl, rfl, _, rfl, ?_⟩
      refine ⟨_, rfl, rfl, _, rfl, ?_⟩
      refine ⟨_, rfl, rfl, _, rfl, ?_⟩
      exact ⟨_, rfl, b, dx, _, rfl, hb.hb, rfl, _, rfl, H0, b, k, d, rs, S, n, rfl, hB, hk, hg, bd, hn, q⟩
theorem c_do_deed (T : Txt K mg) : C8.Cal P w K mg base 6 "do_deed" (sp_do_deed K) [] := by
  obtain ⟨fd, F⟩ := T.f_do_deed
  exact ⟨_, fd, _, _, ok_do_deed T F, T.g_do_deed, F.kp, F.bindsN (fun _ _ _ _ _ _ us hl => match us, hl with | [_, _, _, _], _ => rfl), .nil⟩
def sp_Box_init (K : PySem.W.Frag) : Sp := fun vs H Q _ => ∃ (b dx : Addr), vs = [.ref b] ∧ H b = some (.ins (He.ga K "Box") dx []) ∧
  ∀ H' li dv ds dr, But [b] H H' → [li, dv, ds, dr].Nodup → (∀ a ∈ [li, dv, ds, dr], H a = none) → H' b = some (.ins (He.ga K "Box") dx (bxf S0 li dv ds dr)) → H' li = some (.lst []) → H' dv = some (.dK []) → H' ds = some (.dK []) → H' dr = some (.dK []) → Q .non H'
set_option maxHeartbeats 2000000 in
theorem ok_Box_init (T : Txt K mg) {fd : FuncData} (F : FunD K d_Box_init.name d_Box_init.qual d_Box_init.params d_Box_init.body d_Box_init.scope (d_Box_init.dvs K) (d_Box_init.kws K) (He.fAd K d_Box_init.at_) fd) : FnOk P w K mg base C8.CX0 1 (He.fAd K d_Box_init.at_) fd ["self"] (sp_Box_init K) := by
  refine F.ok sc_Box_init (fun vs H Q E h => ?_) (fun cdv A outer s H vs Q E hr h => ?_)
  · obtain ⟨t, dt, rfl, _⟩ := h
    rfl
  · have hu := L2.hu_of hr
    obtain ⟨t, dt, rfl, ht, q⟩ := h
    refine ⟨_, (PSs.nox ((pss_cons (ps_fld (pv 0) pe_bl rfl)
  (pss_cons (ps_fld (pv 0) (pe_lst pa_nil) rfl)
  (pss_cons (ps_fld (pv 0) pe_str rfl)
  (pss_cons (ps_fld (pv 0) pe_dnewK rfl)
  (pss_cons (ps_fld (pv 0) pe_non rfl)
  (pss_cons (ps_fld (pv 0) pe_non rfl)
  (pss_cons (ps_fld (pv 0) pe_dnewK rfl)
  (pss_one (ps_fld (pv 0) pe_dnewK rfl))))))))))), ?_⟩
    refine ⟨_, rfl, t, _, dt, _, rfl, ht, T.cl_Box, T.no_Box_ajar, (by show 0 < 1000; decide), ?_⟩
    refine ⟨Nat.zero_le _, fun p1 h1 => ?_⟩
    obtain ⟨a1, h1⟩ := up_none h1
    refine ⟨_, rfl, t, _, dt, _, rfl, (by rw [upd_ne a1.symm]; exact upd_same), T.cl_Box, T.no_Box_inside, (by show 1 < 1000; decide), ?_⟩
    refine ⟨_, rfl, t, _, dt, _, rfl, upd_same, T.cl_Box, T.no_Box_taken_for, (by show 2 < 1000; decide), ?_⟩
    refine fun p2 h2 => ?_
    obtain ⟨a2, h2⟩ := up_none h2
    obtain ⟨_, h2⟩ := up_none h2
    obtain ⟨b2, h2⟩ := up_none h2
    obtain ⟨_, h2⟩ := up_none h2
    refine ⟨_, rfl, t, _, dt, _, rfl, (by rw [upd_ne a2.symm]; exact upd_same), T.cl_Box, T.no_Box_valid, (by show 3 < 1000; decide), ?_⟩
    refine ⟨_, rfl, t, _, dt, _, rfl, upd_same, T.cl_Box, T.no_Box_age, (by show 4 < 1000; decide), ?_⟩
    refine ⟨_, rfl, t, _, dt, _, rfl, upd_same, T.cl_Box, T.no_Box_last, (by show 5 < 1000; decide), ?_⟩
    refine fun p3 h3 => ?_
    obtain ⟨a3, h3⟩ := up_none h3
    obtain ⟨_, h3⟩ := up_none h3
    obtain ⟨_, h3⟩ := up_none h3
    obtain ⟨c3, h3⟩ := up_none h3
    obtain ⟨_, h3⟩ := up_none h3
    obtain ⟨_, h3⟩ := up_none h3
    obtain ⟨b3, h3⟩ := up_none h3
    obtain ⟨_, h3⟩ := up_none h3
    refine ⟨_, rfl, t, _, dt, _, rfl, (by rw [upd_ne a3.symm]; exact upd_same), T.cl_Box, T.no_Box_sent, (by show 6 < 1000; decide), ?_⟩
    refine fun p4 h4 => ?_
    obtain ⟨a4, h4⟩ := up_none h4
    obtain ⟨d4, h4⟩ := up_none h4
    obtain ⟨_, h4⟩ := up_none h4
    obtain ⟨_, h4⟩ := up_none h4
    obtain ⟨_, h4⟩ := up_none h4
    obtain ⟨c4, h4⟩ := up_none h4
    obtain ⟨_, h4⟩ := up_none h4
    obtain ⟨_, h4⟩ := up_none h4
    obtain ⟨b4, h4⟩ := up_none h4
    obtain ⟨_, h4⟩ := up_none h4
    refine ⟨_, rfl, t, _, dt, _, rfl, (by rw [upd_ne a4.symm]; exact upd_same), T.cl_Box, T.no_Box_served, (by show 7 < 1000; decide), ?_⟩
    have nt : t ∈ [t] := by simp
    refine q _ p1 p2 p3 p4 ?_ ?_ ?_ upd_same ?_ ?_ ?_ ?_
    · exact ((((((((((((But.refl [t] H).put (.inr nt)).put (.inl h1)).put (.inr nt)).put (.inr nt)).put (.inl h2)).put (.inr nt)).put (.inr nt)).put (.inr nt)).put (.inl h3)).put (.inr nt)).put (.inl h4)).put (.inr nt)
    · simp only [List.nodup_cons, List.mem_cons, List.not_mem_nil, or_false, not_or, not_false_eq_true, List.nodup_nil, and_true]
      exact ⟨⟨b2.symm, b3.symm, b4.symm⟩, ⟨c3.symm, c4.symm⟩, d4.symm⟩
    · intro a ha
      simp only [List.mem_cons, List.not_mem_nil, or_false] at ha
      rcases ha with rfl | rfl | rfl | rfl <;> assumption
    · rw [upd_ne a1, upd_ne b4.symm, upd_ne a1, upd_ne b3.symm, upd_ne a1, upd_ne a1, upd_ne a1, upd_ne b2.symm, upd_ne a1, upd_ne a1, upd_same]
    · rw [upd_ne a2, upd_ne c4.symm, upd_ne a2, upd_ne c3.symm, upd_ne a2, upd_ne a2, upd_ne a2, upd_same]
    · rw [upd_ne a3, upd_ne d4.symm, upd_ne a3, upd_same]
    · rw [upd_ne a4, upd_same]
theorem c_Box_init (T : Txt K mg) : C8.Mak P w K mg base 1 "Box" (He.ga K "Box") (sp_Box_init K) [] := by
  obtain ⟨fd, F⟩ := T.f_Box_init
  exact ⟨_, fd, _, _, T.mk_Box, ok_Box_init T F, T.g_Box, F.bindsN (fun _ _ _ _ _ _ us hl => match us, hl with | [_], _ => rfl), .nil⟩
end
end K29

namespace K29
open PySem PySem.Spec PyProof.Rows L2 My
abbrev PlayS := Int × BoxS × List ToldS
def stepF (rs : List RuleL) (d : Int) (st : PlayS) (x : Deed) : PlayS :=
  (if isBr x = true then st.1 + 1 else st.1, (doF rs d (if isBr x = true then st.1 + 1 else st.1) x st.2.1).1, st.2.2 ++ [(doF rs d (if isBr x = true then st.1 + 1 else st.1) x st.2.1).2])
def runF (rs : List RuleL) (d : Int) (ds : List Deed) : PlayS := ds.foldl (stepF rs d) (0, S0, [])
theorem runF_more {rs : List RuleL} {d : Int} {ds : List Deed} {i : Nat} {x : Deed} (h : ds[i]? = some x) : runF rs d (ds.take (i + 1)) = stepF rs d (runF rs d (ds.take i)) x := by
  unfold runF
  rw [take_more h, List.foldl_append]
  rfl
theorem runF_bd {rs : List RuleL} {d : Int} (hg : GoodB rs) : ∀ (ds : List Deed) (i : Nat), i ≤ ds.length → Bd (16 * i) ((runF rs d (ds.take i)).2.1, T0) := by
  intro ds i
  induction i with
  | zero => intro _; exact ⟨Nat.le_refl _, Nat.le_refl _, Nat.le_refl _, Nat.le_refl _, Nat.le_refl _, Nat.le_refl _, Nat.le_refl _⟩
  | succ i ih =>
    intro hi
    have hx := List.getElem?_eq_getElem (show i < ds.length by omega)
    rw [runF_more hx]
    have := ((ih (by omega)).doF hg (d := d) (k := if isBr ds[i] = true then (runF rs d (ds.take i)).1 + 1 else (runF rs d (ds.take i)).1) (x := ds[i])).self
    exact this.mono (by omega)
theorem runF_len (rs : List RuleL) (d : Int) (ds : List Deed) : (runF rs d ds).2.2.length = ds.length := by
  have hh : ∀ (l : List Deed) (st : PlayS), (l.foldl (stepF rs d) st).2.2.length = st.2.2.length + l.length := by
    intro l
    induction l with
    | nil => intro st; rfl
    | cons z l ih =>
      intro st
      rw [List.foldl_cons, ih, List.length_cons]
      show (st.2.2 ++ [_]).length + l.length = _
      rw [List.length_append]
      show st.2.2.length + 1 + l.length = _
      omega
  unfold runF
  rw [hh]
  show 0 + _ = _
  omega
def hideF (fp : List Addr) (H : Hp) : Hp := fun a => if a ∈ fp then none else H a
theorem hide_same (fp : List Addr) (H : Hp) : Same (hideF fp H) H := fun a o e => by
  unfold hideF at e
  split at e
  · cases e
  · exact e
theorem hide_none {fp : List Addr} {H : Hp} {a : Addr} (h : a ∈ fp) : hideF fp H a = none := if_pos h
theorem hide_some {fp : List Addr} {H : Hp} {a : Addr} {o : HO} (n : a ∉ fp) (h : H a = some o) : hideF fp H a = some o := by
  unfold hideF
  rw [if_neg n]
  exact h
theorem hide_in {fp : List Addr} {H : Hp} {a : Addr} {o : HO} (h : hideF fp H a = some o) : a ∉ fp := fun z => by
  rw [hide_none z] at h
  cases h
/-- a told thing (it, its letters, what was got) that stands apart from the list at sl -/
def TdAt (K : PySem.W.Frag) (H : Hp) (sl : Addr) (z : Addr × Addr × Addr) (U : ToldS) : Prop := ∃ dt yb lw lm, (sl ≠ z.1 ∧ sl ≠ z.2.1 ∧ sl ≠ z.2.2 ∧ sl ≠ lw ∧ sl ≠ lm) ∧ H z.1 = some (.ins (He.ga K "Told") dt (tdf U yb z.2.1 z.2.2 lw lm)) ∧ H z.2.1 = some (.lst (U.letters.map V.int)) ∧ H z.2.2 = some (.lst (U.got.map V.int)) ∧
  H lw = some (.lst (U.wrongs.map V.str)) ∧ H lm = some (.lst (U.moments.map V.str))
/-- the lists of letters and of what was got -/
def lets (ts : List (Addr × Addr × Addr)) : List Addr := ts.flatMap fun z => [z.2.1, z.2.2]
def StoryAt (K : PySem.W.Frag) (H0 H : Hp) (sl : Addr) (Us : List ToldS) : Prop := ∃ ts : List (Addr × Addr × Addr), H sl = some (.lst (ts.map fun z => V.ref z.1)) ∧ Paired (TdAt K H sl) ts Us ∧ (lets ts).Nodup ∧ ∀ x ∈ lets ts, H0 x = none
theorem TdAt.same {K : PySem.W.Frag} {H H' : Hp} {sl : Addr} {z : Addr × Addr × Addr} {U : ToldS} (s : But [sl] H H') (h : TdAt K H sl z U) : TdAt K H' sl z U := by
  obtain ⟨dt, yb, lw, lm, ⟨n1, n2, n3, n4, n5⟩, h1, h2, h3, h4, h5⟩ := h
  exact ⟨dt, yb, lw, lm, ⟨n1, n2, n3, n4, n5⟩, s _ _ (by simpa using n1.symm) h1, s _ _ (by simpa using n2.symm) h2, s _ _ (by simpa using n3.symm) h3, s _ _ (by simpa using n4.symm) h4, s _ _ (by simpa using n5.symm) h5⟩
theorem lets_some {K : PySem.W.Frag} {H : Hp} {sl : Addr} : ∀ {ts : List (Addr × Addr × Addr)} {Us : List ToldS}, Paired (TdAt K H sl) ts Us → ∀ x ∈ lets ts, ∃ o, H x = some o
  | _, _, .nil, x, hx => by cases hx
  | z :: ts, _, .cons r t, x, hx => by
    obtain ⟨dt, yb, lw, lm, _, h1, h2, h3, _⟩ := r
    have hx2 : x ∈ z.2.1 :: z.2.2 :: lets ts := hx
    rcases List.mem_cons.mp hx2 with e | hx2
    · rw [e]; exact ⟨_, h2⟩
    · rcases List.mem_cons.mp hx2 with e | hx2
      · rw [e]; exact ⟨_, h3⟩
      · exact lets_some t x hx2
theorem lets_app (ts us : List (Addr × Addr × Addr)) : lets (ts ++ us) = lets ts ++ lets us := by
  unfold lets
  rw [List.flatMap_append]
/-- behind some deeds: the box, the story, all that stood -/
def PlayedAt (K : PySem.W.Frag) (H H' : Hp) (b sl : Addr) (S : BoxS) (Us : List ToldS) : Prop := ∃ dx li dv ds dr, BxA K (hideF [b, li, dv, ds, dr] H') H' b dx li dv ds dr S ∧ Same H (hideF [b, li, dv, ds, dr] H') ∧ StoryAt K H (hideF [b, li, dv, ds, dr] H') sl Us ∧ H sl = none
theorem bxa_hide {K : PySem.W.Frag} {H : Hp} {b dx li dv ds dr : Addr} {S : BoxS} (nd : [b, li, dv, ds, dr].Nodup) (hb : H b = some (.ins (He.ga K "Box") dx (bxf S li dv ds dr))) (hli : H li = some (.lst (S.inside.map V.int))) (hdv : H dv = some (.dK (kvT S.valid)))
    (hds : H ds = some (.dK (kvT S.sent))) (hdr : H dr = some (.dK (kvT S.served))) : BxA K (hideF [b, li, dv, ds, dr] H) H b dx li dv ds dr S :=
  ⟨hide_same _ _, nd, fun _ ha => hide_none ha, hb, hli, hdv, hds, hdr⟩
section
variable {P : Program} {w : World} {K : PySem.W.Frag} {mg : Str → Option Value} {base : Heap}
def sp_played (K : PySem.W.Frag) : Sp := fun vs H Q _ => ∃ (k a : Addr) (d : Int) (rs : List RuleL) (xs : List V) (ds : List Deed), vs = [.ref k, .ref a] ∧ BookAt K H k d rs ∧ GoodB rs ∧ SqL K H a xs ∧ DeedsAt K H xs ds ∧ ds.length ≤ 50000 ∧
  ∀ H' p b sl, PlayedAt K H H' b sl (runF rs d ds).2.1 (runF rs d ds).2.2 → H' p = some (.tup [.ref b, .ref sl]) → H p = none → Q (.ref p) H'
set_option maxHeartbeats 2000000 in
theorem ok_played (T : Txt K mg) {fd : FuncData} (F : FunD K d_played.name d_played.qual d_played.params d_played.body d_played.scope (d_played.dvs K) (d_played.kws K) (He.fAd K d_played.at_) fd) : FnOk P w K mg base C8.CX0 7 (He.fAd K d_played.at_) fd ["book", "deeds"] (sp_played K) := by
  have c_do_deed := c_do_deed (P := P) (w := w) (base := base) T
  have c_Box_init := c_Box_init (P := P) (w := w) (base := base) T
  refine F.ok sc_played (fun vs H Q E h => ?_) (fun cdv A outer s H vs Q E hr h => ?_)
  · obtain ⟨k, a, d, rs, xs, ds, rfl, _⟩ := h
    rfl
  · have hu := L2.hu_of hr
    obtain ⟨k, a, d, rs, xs, ds, rfl, hk, hg, hS, hD, hl, q⟩ := h
    have hlen : xs.length = ds.length := hD.length
    refine ⟨_, (PSs.nox ((pss_cons (ps_set (i := 2) sc_played.nd rfl (by first | exact Or.inl rfl | exact Or.inr rfl) (My.pe_mk0 c_Box_init hr (by decide) rfl))
  (pss_cons (ps_set (i := 3) sc_played.nd rfl (by first | exact Or.inl rfl | exact Or.inr rfl) pe_int)
  (pss_cons (ps_set (i := 4) sc_played.nd rfl (by first | exact Or.inl rfl | exact Or.inr rfl) (pe_lst pa_nil))
  (pss_cons (ps_for PassesOwn.never rfl (My.pi_listK (K := K) rfl (pv 1)) (pg_name (i := 5) sc_played.nd rfl (by first | exact Or.inl rfl | exact Or.inr rfl))
  (pss_cons (ps_if (pt_cmpR op_eq (pe_ix (My.ix_tupK (K := K) rfl) (pv 5) pe_int (fun _ _ => rfl)) pe_str (nomark _))
  (pss_one (ps_aug (i := 3) sc_played.nd rfl (by first | exact Or.inl rfl | exact Or.inr rfl) pe_int ip_add))
  pss_nil)
  (pss_one (ps_expr (My.pe_bmK (K := K) rfl PySem.F.plainAttrs_list PySem.F.slot_list_append PySem.F.type_list_append mt_append (pv 4) (pa_cons (C8.pe_c c_do_deed hr (by decide) rfl (pa_cons (pv 0) (pa_cons (pv 2) (pa_cons (pv 5) (pa_cons (pv 3) pa_nil))))) pa_nil))))))
  (pss_one (ps_ret (pe_tup (pa_cons (pv 2) (pa_cons (pv 4) pa_nil))))))))))), ?_⟩
    intro b dx nb ndb nex
    have s0 : Same H (upd (upd H dx (.own b)) b (.ins (He.ga K "Box") dx [])) := (same_new ndb).trans (same_upd (Same.refl _) (by rw [upd_ne nex.symm]; exact nb))
    refine ⟨b, dx, rfl, upd_same, fun H1 li dv dsn dr bt nd new h1 h2 h3 h4 h5 => ⟨rfl, ?_⟩⟩
    have new2 : ∀ x ∈ [li, dv, dsn, dr], x ≠ b ∧ H x = none := fun x hx => by
      obtain ⟨y1, y2⟩ := up_none (new x hx)
      obtain ⟨_, y3⟩ := up_none y2
      exact ⟨y1, y3⟩
    have s1 : Same H H1 := fun c o e => bt c o (by simpa using ne_of_none e nb) (s0 _ _ e)
    have ndb5 : [b, li, dv, dsn, dr].Nodup := List.nodup_cons.mpr ⟨fun z => (new2 b z).1 rfl, nd⟩
    have none5 : ∀ x ∈ [b, li, dv, dsn, dr], H x = none := fun x hx => by
      rcases List.mem_cons.mp hx with z | z
      · rw [z]; exact nb
      · exact (new2 x z).2
    refine ⟨Nat.zero_le _, fun sl hsl => ?_⟩
    have nslb : sl ≠ b := (ne_of_none h1 hsl).symm
    have nsl5 : sl ∉ [b, li, dv, dsn, dr] := by
      simp only [List.mem_cons, List.not_mem_nil, or_false, not_or]
      exact ⟨nslb, (ne_of_none h2 hsl).symm, (ne_of_none h3 hsl).symm, (ne_of_none h4 hsl).symm, (ne_of_none h5 hsl).symm⟩
    have hHsl : H sl = none := s1.free hsl
    have ini : PlayedAt K H (upd H1 sl (.lst [])) b sl S0 [] := by
      simp only [List.mem_cons, List.not_mem_nil, or_false, not_or] at nsl5
      refine ⟨dx, li, dv, dsn, dr, bxa_hide ndb5 (by rw [upd_ne nslb.symm]; exact h1) (by rw [upd_ne (Ne.symm nsl5.2.1)]; exact h2) (by rw [upd_ne (Ne.symm nsl5.2.2.1)]; exact h3) (by rw [upd_ne (Ne.symm nsl5.2.2.2.1)]; exact h4) (by rw [upd_ne (Ne.symm nsl5.2.2.2.2)]; exact h5), ?_, ⟨[], ?_, .nil, List.nodup_nil, fun x hx => by cases hx⟩, hHsl⟩
      · intro c o e
        refine hide_some (fun z => ?_) (same_upd s1 hHsl _ _ e)
        rw [none5 c z] at e
        cases e
      · refine hide_some ?_ upd_same
        simp only [List.mem_cons, List.not_mem_nil, or_false, not_or]
        exact nsl5
    have psame : ∀ {H' : Hp} {S : BoxS} {Us : List ToldS}, PlayedAt K H H' b sl S Us → Same H H' := fun ⟨_, _, _, _, _, _, z, _⟩ => z.trans (hide_same _ _)
    refine ⟨_, rfl, a, rfl, ⟨_, (psame ini).seq hS⟩, ?_⟩
    refine for_list (K := K) (a := a) (xs := xs) (fun i σ H' => ∃ u, σ = [some (.ref k), some (.ref a), some (.ref b), some (.int (runF rs d (ds.take i)).1), some (.ref sl), u] ∧ PlayedAt K H H' b sl (runF rs d (ds.take i)).2.1 (runF rs d (ds.take i)).2.2) ⟨_, rfl, ini⟩ (fun i σ H' _ ⟨_, _, z⟩ => (psame z).seq hS) ?_ ?_
    · rintro i y σ H2 hi ⟨u, rfl, hp⟩
      obtain ⟨x, hx, hat⟩ := paired_at hD hi
      obtain ⟨dx2, li2, dv2, ds2, dr2, hB, s2, ⟨ts, hts, htd, hnd, hfr⟩, hsl0⟩ := id hp
      have sH2 : Same H H2 := psame hp
      obtain ⟨ax, rfl, hax⟩ := hat
      have hax2 := same_tup sH2 hax
      have w0 : atI x.vs 0 = some (.str x.w) := by cases x <;> rfl
      have hib : i < ds.length := (List.getElem?_eq_some_iff.mp hx).1
      have bdi := runF_bd (d := d) hg ds i (by omega)
      -- behind the counting
      have last : ∀ n' : Int, n' = (if isBr x = true then (runF rs d (ds.take i)).1 + 1 else (runF rs d (ds.take i)).1) →
          tDrop (tBM K "list" rAppend (tVar 4) (tCons (tCall (sp_do_deed K) [] C8.E0 (tCons (tVar 0) (tCons (tVar 2) (tCons (tVar 5) (tCons (tVar 3) tNil))))) tNil))
            { nx := fun σ H' => ∃ u, σ = [some (.ref k), some (.ref a), some (.ref b), some (.int (runF rs d (ds.take (i + 1))).1), some (.ref sl), u] ∧ PlayedAt K H H' b sl (runF rs d (ds.take (i + 1))).2.1 (runF rs d (ds.take (i + 1))).2.2, rt := Q }
            [some (.ref k), some (.ref a), some (.ref b), some (.int n'), some (.ref sl), some (.ref ax)] H2 := by
        intro n' en
        have hsl2 := hide_same _ _ _ _ hts
        refine ⟨_, rfl, .inl ⟨rfl, _, SqL.of hsl2⟩, _, rfl, _, rfl, _, rfl, _, rfl, hideF [b, li2, dv2, ds2, dr2] H2, b, k, _, x, n', d, rs, _, 16 * i, rfl, ⟨ax, rfl, hax2⟩, ⟨dx2, li2, dv2, ds2, dr2, hB⟩, hk.same s2, hg, bdi, by omega, fun H3 t hx3 => ?_⟩
        obtain ⟨dx3, li3, dv3, ds3, dr3, dt, yb, ll, lg, lw, lm, h3⟩ := hx3
        have hsl3 := h3.same _ _ hts
        refine ⟨sl, _, _, rfl, rfl, hsl3, ?_, ?_⟩
        · rw [List.length_map, htd.length]
          have : (runF rs d (ds.take i)).2.2.length ≤ 50000 := by
            have hh : ∀ (l : List Deed) (st : PlayS), (l.foldl (stepF rs d) st).2.2.length = st.2.2.length + l.length := by
              intro l
              induction l with
              | nil => intro st; rfl
              | cons z l ih =>
                intro st
                rw [List.foldl_cons, ih, List.length_cons]
                show (st.2.2 ++ [_]).length + l.length = _
                rw [List.length_append]
                show st.2.2.length + 1 + l.length = _
                omega
            unfold runF
            rw [hh, List.length_take]
            show 0 + _ ≤ _
            omega
          exact lt_line (by omega)
        · refine ⟨some (.ref ax), ?_, ?_⟩
          · rw [runF_more hx, en]
            rfl
          rw [runF_more hx]
          have nsl : ∀ z ∈ [b, li3, dv3, ds3, dr3, t, ll, lg, lw, lm], sl ≠ z := fun z hz e => by
            rw [← e] at hz
            rw [h3.new sl hz] at hts
            cases hts
          have es : upd H3 sl (.lst (ts.map (fun z => V.ref z.1) ++ [V.ref t])) = upd H3 sl (.lst ((ts ++ [(t, ll, lg)]).map fun z => V.ref z.1)) := by rw [List.map_append]; rfl
          rw [es]
          have nd5 : [b, li3, dv3, ds3, dr3].Nodup := (List.nodup_append.mp (show ([b, li3, dv3, ds3, dr3] ++ [t, ll, lg, lw, lm]).Nodup from h3.nd)).1
          have out5 : ∀ z ∈ [t, ll, lg, lw, lm], z ∉ [b, li3, dv3, ds3, dr3] := fun z hz hz2 => (List.nodup_append.mp (show ([b, li3, dv3, ds3, dr3] ++ [t, ll, lg, lw, lm]).Nodup from h3.nd)).2.2 z hz2 z hz rfl
          have hid : ∀ c o, hideF [b, li2, dv2, ds2, dr2] H2 c = some o → c ≠ sl → hideF [b, li3, dv3, ds3, dr3] (upd H3 sl (.lst ((ts ++ [(t, ll, lg)]).map fun z => V.ref z.1))) c = some o := fun c o e ne => by
            refine hide_some (fun z => ?_) (by rw [upd_ne ne]; exact h3.same _ _ e)
            rw [h3.new c (by
              have : c ∈ [b, li3, dv3, ds3, dr3] ++ [t, ll, lg, lw, lm] := List.mem_append_left _ z
              exact this)] at e
            cases e
          have newt : ∀ z ∈ [t, ll, lg, lw, lm], ∀ o, H3 z = some o → hideF [b, li3, dv3, ds3, dr3] (upd H3 sl (.lst ((ts ++ [(t, ll, lg)]).map fun z => V.ref z.1))) z = some o := fun z hz o e => by
            refine hide_some (out5 z hz) (by
              rw [upd_ne (nsl z (by
                have : z ∈ [b, li3, dv3, ds3, dr3] ++ [t, ll, lg, lw, lm] := List.mem_append_right _ hz
                exact this)).symm]
              exact e)
          refine ⟨dx3, li3, dv3, ds3, dr3, bxa_hide nd5 (by rw [upd_ne (nsl b (by simp)).symm]; subst en; exact h3.hb) (by rw [upd_ne (nsl li3 (by simp)).symm]; subst en; exact h3.hli) (by rw [upd_ne (nsl dv3 (by simp)).symm]; subst en; exact h3.hdv) (by rw [upd_ne (nsl ds3 (by simp)).symm]; subst en; exact h3.hds) (by rw [upd_ne (nsl dr3 (by simp)).symm]; subst en; exact h3.hdr), ?_, ⟨ts ++ [(t, ll, lg)], ?_, ?_, ?_, ?_⟩, hsl0⟩
          · exact fun c o e => hid c o (s2 _ _ e) (ne_of_none e hsl0)
          · refine hide_some (fun z => ?_) upd_same
            exact nsl sl (by
              have : sl ∈ [b, li3, dv3, ds3, dr3] ++ [t, ll, lg, lw, lm] := List.mem_append_left _ z
              exact this) rfl
          · refine Paired.snoc (paired_map (fun z U _ hz => hz.same (fun c o n e => hid c o e (by simpa using n))) htd) ?_
            refine ⟨dt, yb, lw, lm, ⟨nsl t (by simp), nsl ll (by simp), nsl lg (by simp), nsl lw (by simp), nsl lm (by simp)⟩, ?_, ?_, ?_, ?_, ?_⟩
            · subst en; exact newt t (by simp) _ h3.ht
            · subst en; exact newt ll (by simp) _ h3.hll
            · subst en; exact newt lg (by simp) _ h3.hlg
            · subst en; exact newt lw (by simp) _ h3.hlw
            · subst en; exact newt lm (by simp) _ h3.hlm
          · rw [lets_app]
            refine List.nodup_append.mpr ⟨hnd, ?_, fun x hx y hy e => ?_⟩
            · show [ll, lg].Nodup
              simp only [List.nodup_cons, List.mem_cons, List.not_mem_nil, or_false, not_false_eq_true, List.nodup_nil, and_true]
              exact nd_ne h3.nd (i := 6) (j := 7) rfl rfl (by decide)
            · obtain ⟨o, ho⟩ := lets_some htd x hx
              have hy2 : y ∈ [ll, lg] := hy
              simp only [List.mem_cons, List.not_mem_nil, or_false] at hy2
              rw [e] at ho
              rcases hy2 with z | z
              · rw [z, h3.new ll (by simp)] at ho
                cases ho
              · rw [z, h3.new lg (by simp)] at ho
                cases ho
          · intro x hx
            rw [lets_app] at hx
            rcases List.mem_append.mp hx with hx | hx
            · exact hfr x hx
            · have hy2 : x ∈ [ll, lg] := hx
              simp only [List.mem_cons, List.not_mem_nil, or_false] at hy2
              rcases hy2 with z | z
              · rw [z]; exact s2.free (h3.new ll (by simp))
              · rw [z]; exact s2.free (h3.new lg (by simp))
      refine ⟨_, rfl, ax, _, _, _, rfl, rfl, hax2, w0, rfl, _, rfl, ?_⟩
      cases x with
      | bring l s => exact ⟨_, rfl, _, _, rfl, rfl, last _ rfl⟩
      | code p t s => exact last _ rfl
      | pass => exact last _ rfl
      | day => exact last _ rfl
      | power => exact last _ rfl
    · rintro σ H2 ⟨u, rfl, hp⟩
      rw [hlen, List.take_length] at hp
      refine ⟨_, rfl, _, rfl, by show 2 ≤ sizeLine; decide, fun p hpn => ?_⟩
      have hs2 := psame hp
      refine q _ p b sl ?_ upd_same (hs2.free hpn)
      obtain ⟨dx2, li2, dv2, ds2, dr2, hB, s2, ⟨ts, hts, htd, hnd, hfr⟩, hsl0⟩ := hp
      have old : ∀ c ∈ [b, li2, dv2, ds2, dr2], c ≠ p := fun c hc e => by
        rw [e] at hc
        simp only [List.mem_cons, List.not_mem_nil, or_false] at hc
        rcases hc with z | z | z | z | z
        · exact absurd (hB.hb.symm.trans (z ▸ hpn)) (by intro q; cases q)
        · exact absurd (hB.hli.symm.trans (z ▸ hpn)) (by intro q; cases q)
        · exact absurd (hB.hdv.symm.trans (z ▸ hpn)) (by intro q; cases q)
        · exact absurd (hB.hds.symm.trans (z ▸ hpn)) (by intro q; cases q)
        · exact absurd (hB.hdr.symm.trans (z ▸ hpn)) (by intro q; cases q)
      have hid : ∀ c o, hideF [b, li2, dv2, ds2, dr2] H2 c = some o → hideF [b, li2, dv2, ds2, dr2] (upd H2 p (.tup [.ref b, .ref sl])) c = some o := fun c o e => by
        have e2 := hide_same _ _ _ _ e
        exact hide_some (hide_in e) (by rw [upd_ne (ne_of_none e2 hpn)]; exact e2)
      refine ⟨dx2, li2, dv2, ds2, dr2, bxa_hide hB.nd (by rw [upd_ne (old b (by simp))]; exact hB.hb) (by rw [upd_ne (old li2 (by simp))]; exact hB.hli) (by rw [upd_ne (old dv2 (by simp))]; exact hB.hdv) (by rw [upd_ne (old ds2 (by simp))]; exact hB.hds) (by rw [upd_ne (old dr2 (by simp))]; exact hB.hdr), fun c o e => hid c o (s2 _ _ e), ⟨ts, hid _ _ hts, paired_map (fun z U _ hz => hz.same (fun c o _ e => hid c o e)) htd, hnd, hfr⟩, hsl0⟩
theorem c_played (T : Txt K mg) : C8.Cal P w K mg base 7 "played" (sp_played K) [] := by
  obtain ⟨fd, F⟩ := T.f_played
  exact ⟨_, fd, _, _, ok_played T F, T.g_played, F.kp, F.bindsN (fun _ _ _ _ _ _ us hl => match us, hl with | [_, _], _ => rfl), .nil⟩
end
end K29

namespace K29
open PySem PySem.Spec PyProof.Rows L2 My
/-- a report as play tells it -/
def ItAt (H : Hp) (z : Addr × Addr × Addr) (U : ToldS) : Prop := H z.1 = some (.tup [.ref z.2.1, .bl U.opened, .ref z.2.2]) ∧ H z.2.1 = some (.lst (U.letters.map V.int)) ∧ H z.2.2 = some (.lst (U.got.map V.int))
/-- the list that play tells: all of it new, its lists apart -/
def RepAt (H0 H : Hp) (p : Addr) (Us : List ToldS) : Prop := ∃ rs : List (Addr × Addr × Addr), H p = some (.lst (rs.map fun z => V.ref z.1)) ∧ Paired (ItAt H) rs Us ∧ (lets rs).Nodup ∧ (∀ x ∈ lets rs, H0 x = none ∧ x ≠ p) ∧ H0 p = none
theorem paired_take {α β : Type} {F : α → β → Prop} : ∀ {l : List α} {m : List β} (n : Nat), Paired F l m → Paired F (l.take n) (m.take n)
  | _, _, 0, _ => .nil
  | _, _, _ + 1, .nil => .nil
  | _, _, n + 1, .cons r t => .cons r (paired_take n t)
theorem lets_mem {ts : List (Addr × Addr × Addr)} {z : Addr × Addr × Addr} (h : z ∈ ts) : z.2.1 ∈ lets ts ∧ z.2.2 ∈ lets ts := by
  unfold lets
  exact ⟨List.mem_flatMap.mpr ⟨z, h, by simp⟩, List.mem_flatMap.mpr ⟨z, h, by simp⟩⟩
theorem td_get {K : PySem.W.Frag} {H : Hp} {sl : Addr} {ts : List (Addr × Addr × Addr)} {Us : List ToldS} (h : Paired (TdAt K H sl) ts Us) {i : Nat} {y : V} (e : (ts.map fun z => V.ref z.1)[i]? = some y) : ∃ z U, ts[i]? = some z ∧ Us[i]? = some U ∧ y = .ref z.1 ∧ TdAt K H sl z U := by
  obtain ⟨z, hz, rfl⟩ := map_get e
  obtain ⟨U, hU, ht⟩ := paired_at h hz
  exact ⟨z, U, hz, hU, rfl, ht⟩
section
variable {P : Program} {w : World} {K : PySem.W.Frag} {mg : Str → Option Value} {base : Heap}
def sp_Told_report (K : PySem.W.Frag) : Sp := fun vs H Q _ => ∃ (t dt : Addr) (yb : Bool) (ll lg lw lm : Addr) (U : ToldS), vs = [.ref t] ∧ H t = some (.ins (He.ga K "Told") dt (tdf U yb ll lg lw lm)) ∧ ∀ p, H p = none → Q (.ref p) (upd H p (.tup [.ref ll, .bl U.opened, .ref lg]))
set_option maxHeartbeats 2000000 in
theorem ok_Told_report (T : Txt K mg) {fd : FuncData} (F : FunD K d_Told_report.name d_Told_report.qual d_Told_report.params d_Told_report.body d_Told_report.scope (d_Told_report.dvs K) (d_Told_report.kws K) (He.fAd K d_Told_report.at_) fd) : FnOk P w K mg base C8.CX0 1 (He.fAd K d_Told_report.at_) fd ["self"] (sp_Told_report K) := by
  refine F.ok sc_Told_report (fun vs H Q E h => ?_) (fun cdv A outer s H vs Q E hr h => ?_)
  · obtain ⟨t, dt, yb, ll, lg, lw, lm, U, rfl, _⟩ := h
    rfl
  · have hu := L2.hu_of hr
    obtain ⟨t, dt, yb, ll, lg, lw, lm, U, rfl, h1, q⟩ := h
    refine ⟨_, (PSs.nox ((pss_one (ps_ret (pe_tup (pa_cons (My.pe_fldK (K := K) rfl (pv 0) rfl) (pa_cons (My.pe_fldK (K := K) rfl (pv 0) rfl) (pa_cons (My.pe_fldK (K := K) rfl (pv 0) rfl) pa_nil)))))))), ?_⟩
    exact ⟨_, rfl, t, _, dt, _, _, rfl, h1, T.cl_Told, T.no_Told_letters, rfl, _, rfl, t, _, dt, _, _, rfl, h1, T.cl_Told, T.no_Told_opened, rfl, _, rfl, t, _, dt, _, _, rfl, h1, T.cl_Told, T.no_Told_got, rfl, by show 3 ≤ sizeLine; decide, q⟩
theorem c_Told_report (T : Txt K mg) : C8.Met P w K mg base 1 (He.ga K "Told") "report" (sp_Told_report K) [] := by
  obtain ⟨fd, F⟩ := T.f_Told_report
  exact ⟨_, fd, _, _, T.cl_Told, T.m_Told_report, ok_Told_report T F, F.bindsN (fun _ _ _ _ _ _ us hl => match us, hl with | [_], _ => rfl), .nil⟩
def sp_play (K : PySem.W.Frag) : Sp := fun vs H Q _ => ∃ (k a : Addr) (d : Int) (rs : List RuleL) (xs : List V) (ds : List Deed), vs = [.ref k, .ref a] ∧ BookAt K H k d rs ∧ GoodB rs ∧ SqL K H a xs ∧ DeedsAt K H xs ds ∧ Playable ds ∧ ds.length ≤ 50000 ∧
  ∀ H' p, Same H H' → RepAt H H' p (runF rs d ds).2.2 → Q (.ref p) H'
/-- how the box stands, as boxes tells it; ys: the valid ones in ascending order -/
def StdAt (H0 H : Hp) (p : Addr) (S : BoxS) (ys : List Int) : Prop := ∃ l1 l2, H p = some (.tup [.bl S.ajar, .ref l1, .str S.tf, .ref l2, oV S.age]) ∧ H l1 = some (.lst (S.inside.map V.int)) ∧ H l2 = some (.lst (ys.map V.int)) ∧ l1 ≠ l2 ∧ H0 l1 = none ∧ H0 l2 = none ∧ H0 p = none ∧ ys.Perm S.valid ∧ ys.Pairwise (· ≤ ·)
def sp_Box_stands (K : PySem.W.Frag) : Sp := fun vs H Q _ => ∃ (b dx li dv ds dr : Addr) (S : BoxS), vs = [.ref b] ∧ H b = some (.ins (He.ga K "Box") dx (bxf S li dv ds dr)) ∧ H li = some (.lst (S.inside.map V.int)) ∧ H dv = some (.dK (kvT S.valid)) ∧ S.valid.length ≤ 50000 ∧ ∀ H' p ys, Same H H' → StdAt H H' p S ys → Q (.ref p) H'
def sp_boxes (K : PySem.W.Frag) : Sp := fun vs H Q _ => ∃ (k a : Addr) (d : Int) (rs : List RuleL) (xs : List V) (ds : List Deed), vs = [.ref k, .ref a] ∧ BookAt K H k d rs ∧ GoodB rs ∧ SqL K H a xs ∧ DeedsAt K H xs ds ∧ Playable ds ∧ ds.length ≤ 50000 ∧ (runF rs d ds).2.1.valid.length ≤ 50000 ∧
  ∀ H' p ys, Same H H' → StdAt H H' p (runF rs d ds).2.1 ys → Q (.ref p) H'
end
end K29

namespace K29
open PySem PySem.Spec PyProof.Rows L2 My
/-! ### faults -/
def flW (U : ToldS) (i : Nat) : List (Str × Nat) := U.wrongs.map fun x => (x, i)
def fl : Nat → List ToldS → List (Str × Nat)
  | _, [] => []
  | n, U :: r => flW U n ++ fl (n + 1) r
theorem fl_app : ∀ (n : Nat) (A B : List ToldS), fl n (A ++ B) = fl n A ++ fl (n + A.length) B
  | n, [], B => by simp [fl]
  | n, U :: r, B => by
    show flW U n ++ fl (n + 1) (r ++ B) = (flW U n ++ fl (n + 1) r) ++ fl (n + (r.length + 1)) B
    rw [fl_app (n + 1) r B, List.append_assoc, show n + 1 + r.length = n + (r.length + 1) by omega]
theorem fl_more {Us : List ToldS} {i : Nat} {U : ToldS} (h : Us[i]? = some U) : fl 0 (Us.take (i + 1)) = fl 0 (Us.take i) ++ flW U i := by
  have hi : i < Us.length := (List.getElem?_eq_some_iff.mp h).1
  rw [take_more h, fl_app, List.length_take, show 0 + min i Us.length = i by omega]
  show _ ++ (flW U i ++ []) = _
  rw [List.append_nil]
theorem act_w (x : BoxS × ToldS) (a : Str) : (act x a).2.wrongs = x.2.wrongs := by
  unfold act
  split
  · unfold sendCode
    split
    · split <;> rfl
    · rfl
  · split
    · rfl
    · split
      · rfl
      · split <;> rfl
theorem foldl_w (r : RuleL) : ∀ x : BoxS × ToldS, (r.foldl act x).2.wrongs = x.2.wrongs := by
  induction r with
  | nil => intro x; rfl
  | cons a r ih => intro x; rw [List.foldl_cons, ih, act_w]
theorem carry_w (r : RuleL) (m : Str) (x : BoxS × ToldS) : (carry r m x).2.wrongs = x.2.wrongs := foldl_w r _
theorem go_w (sh : Bool) (m1 m2 : Str) (r1 r2 : RuleL) (x : BoxS × ToldS) : (goAway sh m1 m2 r1 r2 x).2.wrongs = x.2.wrongs := by
  unfold goAway
  split
  · split
    · rw [carry_w]
    · rw [carry_w]
  · rfl
theorem lay_w (p : Int) (l : Bool) (x : BoxS × ToldS) : (layIn p l x).2.wrongs.length ≤ x.2.wrongs.length + 1 := by
  unfold layIn
  split
  · show (if x.1.inside.isEmpty = true then x.2.wrongs else x.2.wrongs ++ [("two" : Str)]).length ≤ _
    split
    · omega
    · rw [List.length_append]; exact Nat.le_refl _
  · omega
theorem take_w (o : Option Int) (x : BoxS × ToldS) : (letTake o x).2.wrongs.length ≤ x.2.wrongs.length + 1 := by
  show (if x.1.inside.any (fun p => decide (some p ≠ o)) = true then x.2.wrongs ++ [("wrong" : Str)] else x.2.wrongs).length ≤ _
  split
  · rw [List.length_append]; exact Nat.le_refl _
  · omega
theorem doF_w (rs : List RuleL) (d n : Int) (x : Deed) (S : BoxS) : (doF rs d n x S).2.wrongs.length ≤ 2 := by
  cases x with
  | bring l s =>
    show (bringF rs n l s S).2.wrongs.length ≤ 2
    unfold bringF
    split
    · rw [go_w]
      have := lay_w n l (carry (at_ rs 0) "given" ({ S with ajar := true, age := some 0, last := some n }, { T0 with opened := true }))
      rw [carry_w] at this
      exact Nat.le_trans this (by show 1 ≤ 2; decide)
    · exact Nat.zero_le _
  | code p t s =>
    show (codeF rs p t s S).2.wrongs.length ≤ 2
    unfold codeF
    have aw : ∀ (c : Bool) (wd : Str) (y : BoxS × ToldS), (addW c wd y).2.wrongs.length ≤ y.2.wrongs.length + 1 := fun c wd y => by
      unfold addW
      split
      · show (y.2.wrongs ++ [wd]).length ≤ _
        rw [List.length_append]; exact Nat.le_refl _
      · omega
    split
    · rw [go_w]
      have h1 := aw (missF p S) "empty" (takeIf p t (carry (at_ rs 3) "opened" ({ S with ajar := true }, { T0 with opened := true })))
      have h2 : (takeIf p t (carry (at_ rs 3) "opened" ({ S with ajar := true }, { T0 with opened := true }))).2.wrongs.length ≤ 1 := by
        unfold takeIf
        split
        · have := take_w (some p) (carry (at_ rs 3) "opened" ({ S with ajar := true }, { T0 with opened := true }))
          rw [carry_w] at this
          exact this
        · rw [carry_w]; exact Nat.zero_le _
      omega
    · have := aw (decide (p ∈ S.inside) && decide (p ∈ S.sent)) "refused" (S, T0)
      exact Nat.le_trans this (by show 1 ≤ 2; decide)
  | pass =>
    show (passBy S).2.wrongs.length ≤ 2
    unfold passBy
    split
    · exact Nat.le_trans (take_w none (S, T0)) (by show 1 ≤ 2; decide)
    · exact Nat.zero_le _
  | day =>
    show (dayF d rs S).2.wrongs.length ≤ 2
    unfold dayF
    split
    · exact Nat.zero_le _
    · split
      · rw [carry_w]; exact Nat.zero_le _
      · exact Nat.zero_le _
  | power =>
    show (powerF rs S).2.wrongs.length ≤ 2
    unfold powerF
    rw [carry_w]; exact Nat.zero_le _
theorem run_w (rs : List RuleL) (d : Int) (ds : List Deed) : ∀ U ∈ (runF rs d ds).2.2, U.wrongs.length ≤ 2 := by
  have hh : ∀ (l : List Deed) (st : PlayS), (∀ U ∈ st.2.2, U.wrongs.length ≤ 2) → ∀ U ∈ (l.foldl (stepF rs d) st).2.2, U.wrongs.length ≤ 2 := by
    intro l
    induction l with
    | nil => intro st h; exact h
    | cons z l ih =>
      intro st h
      rw [List.foldl_cons]
      refine ih _ fun U hU => ?_
      rcases List.mem_append.mp (show U ∈ st.2.2 ++ [_] from hU) with hU | hU
      · exact h U hU
      · rw [List.mem_singleton.mp hU]
        exact doF_w _ _ _ _ _
  exact hh ds _ fun U hU => by cases hU
theorem fl_len : ∀ (n : Nat) (Us : List ToldS), (∀ U ∈ Us, U.wrongs.length ≤ 2) → (fl n Us).length ≤ 2 * Us.length
  | _, [], _ => Nat.le_refl _
  | n, U :: r, h => by
    have h1 := fl_len (n + 1) r fun V hV => h V (List.mem_cons_of_mem _ hV)
    have h2 := h U (List.mem_cons_self ..)
    show (flW U n ++ fl (n + 1) r).length ≤ 2 * (r.length + 1)
    rw [List.length_append]
    unfold flW
    rw [List.length_map]
    omega
def FItAt (H : Hp) (t : Addr) (x : Str × Nat) : Prop := H t = some (.tup [.str x.1, .int (x.2 : Nat)])
def FltAt (H0 H : Hp) (p : Addr) (l : List (Str × Nat)) : Prop := ∃ us : List Addr, H p = some (.lst (us.map V.ref)) ∧ Paired (FItAt H) us l ∧ H0 p = none
section
variable {P : Program} {w : World} {K : PySem.W.Frag} {mg : Str → Option Value} {base : Heap}
def sp_faults (K : PySem.W.Frag) : Sp := fun vs H Q _ => ∃ (k a : Addr) (d : Int) (rs : List RuleL) (xs : List V) (ds : List Deed), vs = [.ref k, .ref a] ∧ BookAt K H k d rs ∧ GoodB rs ∧ SqL K H a xs ∧ DeedsAt K H xs ds ∧ Playable ds ∧ ds.length ≤ 50000 ∧
  ∀ H' p, Same H H' → FltAt H H' p (fl 0 (runF rs d ds).2.2) → Q (.ref p) H'
set_option maxHeartbeats 2000000 in
theorem ok_faults (T : Txt K mg) {fd : FuncData} (F : FunD K d_faults.name d_faults.qual d_faults.params d_faults.body d_faults.scope (d_faults.dvs K) (d_faults.kws K) (He.fAd K d_faults.at_) fd) : FnOk P w K mg base C8.CX0 8 (He.fAd K d_faults.at_) fd ["book", "deeds"] (sp_faults K) := by
  have c_played := c_played (P := P) (w := w) (base := base) T
  have c_check_playable := c_check_playable (P := P) (w := w) (base := base) T
  refine F.ok sc_faults (fun vs H Q E h => ?_) (fun cdv A outer s H vs Q E hr h => ?_)
  · obtain ⟨k, a, d, rs, xs, ds, rfl, _⟩ := h
    rfl
  · have hu := L2.hu_of hr
    obtain ⟨k, a, d, rs, xs, ds, rfl, hk, hg, hS, hD, hP, hl, q⟩ := h
    refine ⟨_, (PSs.nox ((pss_cons (ps_expr (C8.pe_c c_check_playable hr (by decide) rfl (pa_cons (pv 1) pa_nil)))
  (pss_cons (ps_asg (C8.pe_c c_played hr (by decide) rfl (pa_cons (pv 0) (pa_cons (pv 1) pa_nil))) (My.pg_tupK (K := K) (n := 2) rfl rfl (pgs_cons (pg_name (i := 2) sc_faults.nd rfl (by first | exact Or.inl rfl | exact Or.inr rfl)) (pgs_cons (pg_name (i := 3) sc_faults.nd rfl (by first | exact Or.inl rfl | exact Or.inr rfl)) pgs_nil))))
  (pss_one (ps_ret (pe_lc2 (own := [("index", 4), ("told", 5), ("kind", 6)]) (vs1 := [6]) (tt := tYes) (tt1 := tYes) (by rfl) sc_faults.nd (pi_enum (by rfl) T.enumerate (pa_cons (pv 3) pa_nil)) (blkOk_by (N := N_faults) (sc := defScope s_faults) (by decide +kernel)) (by decide) (fun _ _ _ _ _ => (My.pg_tupK (K := K) (n := 2) rfl rfl (pgs_cons (pg_name (i := 4) sc_faults.nd rfl (by first | exact Or.inl rfl | exact Or.inr rfl)) (pgs_cons (pg_name (i := 5) sc_faults.nd rfl (by first | exact Or.inl rfl | exact Or.inr rfl)) pgs_nil)))) (fun _ _ _ _ _ => pts_nil) (fun _ _ _ _ _ => (My.pi_listK (K := K) rfl (My.pe_fldK (K := K) rfl (pv 5) rfl))) (fun _ _ _ _ _ => (pg_name (i := 6) sc_faults.nd rfl (by first | exact Or.inl rfl | exact Or.inr rfl))) (fun _ _ _ _ _ => pts_nil) (fun _ _ _ _ _ => (pe_tup (pa_cons (pv 6) (pa_cons (pv 4) pa_nil))))))))))), ?_⟩
    refine ⟨_, rfl, a, xs, ds, rfl, hS, hD, hP, fun H1 s1 => ?_⟩
    refine ⟨_, rfl, _, rfl, k, a, d, rs, xs, ds, rfl, hk.same s1, hg, s1.seq hS, hD.same s1, hl, fun H2 p b sl hP2 hp hpn => ?_⟩
    obtain ⟨dx, li, dv, dsn, dr, hB, s2, ⟨ts, hts0, htd0, hnd, hfr⟩, hsl0⟩ := hP2
    have hh := hide_same [b, li, dv, dsn, dr] H2
    have hts := hh _ _ hts0
    have htd := paired_map (fun z U _ hz => TdAt.same (fun c o _ e => hh c o e) hz) htd0
    have sH : Same H H2 := s1.trans (s2.trans hh)
    have hrl := runF_len rs d ds
    have hrw := run_w rs d ds
    generalize (runF rs d ds).2.2 = Us at htd hrl hrw q
    have short : ∀ i, (fl 0 (Us.take i)).length ≤ 100000 := fun i => by
      have := fl_len 0 (Us.take i) fun U hU => hrw U (List.mem_of_mem_take hU)
      have h2 : (Us.take i).length ≤ Us.length := by rw [List.length_take]; omega
      omega
    refine ⟨p, _, rfl, SqT.of hp, rfl, _, _, rfl, _, _, rfl, rfl, ?_⟩
    refine ⟨_, rfl, sl, _, rfl, SqL.of hts, fun D hD => ?_⟩
    refine lc2_out (walk_enum (xs := ts.map fun z => V.ref z.1)) (fun i H' => Same H2 H' ∧ ∃ us : List Addr, H' D = some (.lst (us.map V.ref)) ∧ Paired (FItAt H') us (fl 0 (Us.take i))) ⟨same_new hD, [], upd_same, .nil⟩ (fun i H' _ z => SqL.of (z.1 _ _ hts)) ?_ ?_
    · rintro i x H3 H4 hi ⟨s3, us, hD3, hup⟩ ⟨t0, x1, y, rfl, ht0, rfl, e1, hy⟩
      cases e1
      obtain ⟨z, U, hz, hU, rfl, ht⟩ := td_get htd hy
      have s4 : Same H3 (upd H3 t0 (.tup [.int (i : Nat), .ref z.1])) := same_new ht0
      obtain ⟨dt, yb, lw, lm, _, g1, g2, g3, g4, g5⟩ := ht
      have h1 := s4 _ _ (s3 _ _ g1)
      have h4 := s4 _ _ (s3 _ _ g4)
      have nt0D : t0 ≠ D := fun e => by rw [e, hD3] at ht0; cases ht0
      refine ⟨t0, _, rfl, SqT.of upd_same, rfl, _, _, rfl, _, _, rfl, rfl, rfl, ?_⟩
      refine ⟨_, rfl, z.1, _, dt, _, _, rfl, h1, T.cl_Told, T.no_Told_wrongs, rfl, lw, rfl, ⟨_, SqL.of h4⟩, ?_⟩
      refine lc2_in (walk_list (xs := U.wrongs.map V.str)) (fun j H' => Same (upd H3 t0 (.tup [.int (i : Nat), .ref z.1])) (upd H' D (.lst (us.map V.ref))) ∧ Same H2 H' ∧ H' lw = some (.lst (U.wrongs.map V.str)) ∧ ∃ vs : List Addr, H' D = some (.lst (vs.map V.ref)) ∧ Paired (FItAt H') vs (fl 0 (Us.take i) ++ (flW U i).take j)) ?_ (fun j H' _ z => SqL.of z.2.2.1) ?_ ?_
      · refine ⟨?_, s3.trans s4, h4, us, by rw [upd_ne nt0D.symm]; exact hD3, ?_⟩
        · intro c o e
          by_cases hc : c = D
          · subst hc
            rw [upd_ne nt0D.symm, hD3] at e
            rw [upd_same]
            exact e
          · rw [upd_ne hc]; exact e
        · rw [List.take_zero, List.append_nil]
          exact paired_map (fun t x _ hx => s4 _ _ hx) hup
      · rintro j x H5 H6 hj ⟨s5, s52, hlw5, vs, hD5, hvp⟩ ⟨rfl, hx⟩
        obtain ⟨wd, hwd, rfl⟩ := map_get hx
        have hlwD : lw ≠ D := ne_of_none g4 hD
        refine ⟨rfl, ?_⟩
        refine ⟨_, rfl, _, rfl, by show 2 ≤ sizeLine; decide, fun q hq => ?_⟩
        have nqD : q ≠ D := fun e => by rw [e, hD5] at hq; cases hq
        have hlt : j < U.wrongs.length := (List.getElem?_eq_some_iff.mp hwd).1
        have hold : ∀ c o, H6 c = some o → c ≠ D → (upd (upd H6 q (.tup [.str wd, .int (i : Nat)])) D (.lst (vs.map V.ref ++ [.ref q]))) c = some o := fun c o e n => by
          rw [upd_ne n, upd_ne (ne_of_none e hq)]
          exact e
        refine ⟨_, by rw [upd_ne nqD.symm]; exact hD5, ?_, ?_, same_upd (s52.trans (same_new hq)) hD, hold _ _ hlw5 hlwD, vs ++ [q], by rw [upd_same, List.map_append]; rfl, ?_⟩
        · rw [List.length_map, hvp.length, List.length_append]
          have a1 := short i
          have a2 : ((flW U i).take j).length ≤ 2 := by
            have := hrw U (List.mem_of_getElem? hU)
            rw [List.length_take]
            unfold flW
            rw [List.length_map]
            omega
          exact lt_line (by omega)
        · intro c o e
          have e5 := s5 c o e
          by_cases hc : c = D
          · subst hc
            rw [upd_same] at e5 ⊢
            exact e5
          · rw [upd_ne hc] at e5 ⊢
            exact hold _ _ e5 hc
        · have em : (flW U i)[j]? = some (wd, i) := by
            unfold flW
            rw [List.getElem?_map, hwd]
            rfl
          rw [take_more em, ← List.append_assoc]
          refine Paired.snoc (paired_map (fun t x _ hx => hold _ _ hx (ne_of hx hD5 (fun e => by cases e))) hvp) ?_
          show upd (upd H6 q _) D _ q = _
          rw [upd_ne nqD, upd_same]
      · rintro H5 ⟨s5, s52, hlw5, vs, hD5, hvp⟩
        refine ⟨s52, vs, hD5, ?_⟩
        rw [fl_more hU]
        have e9 : (flW U i).take (U.wrongs.map V.str).length = flW U i := List.take_of_length_le (by unfold flW; rw [List.length_map, List.length_map]; exact Nat.le_refl _)
        rw [e9] at hvp
        exact hvp
    · rintro H3 ⟨s3, us, hD3, hup⟩
      rw [List.length_map, htd.length, List.take_length] at hup
      exact q _ D (sH.trans s3) ⟨us, hD3, hup, sH.free hD⟩
theorem c_faults (T : Txt K mg) : C8.Cal P w K mg base 8 "faults" (sp_faults K) [] := by
  obtain ⟨fd, F⟩ := T.f_faults
  exact ⟨_, fd, _, _, ok_faults T F, T.g_faults, F.kp, F.bindsN (fun _ _ _ _ _ _ us hl => match us, hl with | [_, _], _ => rfl), .nil⟩
theorem k_faults (T : Txt K mg) : My.CalK2 P w K mg base 8 "faults" (sp_faults K) "book" "deeds" := by
  obtain ⟨fd, F⟩ := T.f_faults
  exact ⟨_, fd, ok_faults T F, T.g_faults, F.kp, My.kw2_of F (fun _ _ _ _ _ _ _ _ => rfl)⟩
end
end K29

namespace K29
open PySem PySem.Spec PyProof.Rows L2 My
/-! ### data -/
theorem dp_flatInts (K : PySem.W.Frag) (H : Hp) : ∀ l : List Int, DpAll K H (l.map V.int) (l.map PyData.int)
  | [] => .nil
  | a :: l => .cons (.int a) (dp_flatInts K H l)
theorem lay_ints : ∀ l : List Int, PyData.canLayAll0 (l.map PyData.int) = true
  | [] => rfl
  | a :: l => by
    show (true && PyData.canLayAll0 (l.map PyData.int)) = true
    rw [lay_ints l]
    rfl
theorem dep_ints : ∀ l : List Int, PyData.depthAll (l.map PyData.int) = 0
  | [] => rfl
  | a :: l => by
    show max 0 (PyData.depthAll (l.map PyData.int)) = 0
    rw [dep_ints l]
    rfl
/-- data that may be compared: laid out, of small depth -/
structure Sm (n : Nat) (d : PyData) : Prop where
  lay : d.canLay0 = true
  dep : d.depth ≤ n
theorem Sm.shaped {n : Nat} {d : PyData} (h : Sm n d) (e : n ≤ 64) : SeqAt.shaped d = true := Bool.and_eq_true_iff.mpr ⟨h.lay, decide_eq_true (Nat.le_trans h.dep e)⟩
theorem Sm.refl {n : Nat} {d : PyData} (h : Sm n d) : PyData.eqv d d = true := SeqAt.eqv_refl d h.lay
theorem sm_int (i : Int) : Sm 0 (.int i) := ⟨rfl, Nat.le_refl _⟩
theorem sm_bool (i : Bool) : Sm 0 (.bool i) := ⟨rfl, Nat.le_refl _⟩
theorem sm_none : Sm 0 .none := ⟨rfl, Nat.le_refl _⟩
theorem lay_all : ∀ {ds : List PyData} {n : Nat}, (∀ d ∈ ds, Sm n d) → PyData.canLayAll0 ds = true ∧ PyData.depthAll ds ≤ n
  | [], n, _ => ⟨rfl, Nat.zero_le _⟩
  | d :: ds, n, h => by
    obtain ⟨h1, h2⟩ := lay_all (ds := ds) fun x hx => h x (List.mem_cons_of_mem _ hx)
    have h3 := h d (List.mem_cons_self ..)
    refine ⟨Bool.and_eq_true_iff.mpr ⟨h3.lay, h1⟩, ?_⟩
    show max d.depth (PyData.depthAll ds) ≤ n
    exact Nat.max_le.mpr ⟨h3.dep, h2⟩
theorem sm_list {ds : List PyData} {n : Nat} (h : ∀ d ∈ ds, Sm n d) : Sm (n + 1) (.list ds) := ⟨(lay_all h).1, Nat.succ_le_succ (lay_all h).2⟩
theorem sm_tuple {ds : List PyData} {n : Nat} (h : ∀ d ∈ ds, Sm n d) : Sm (n + 1) (.tuple ds) := ⟨(lay_all h).1, Nat.succ_le_succ (lay_all h).2⟩
theorem Sm.mono {n m : Nat} {d : PyData} (h : Sm n d) (e : n ≤ m) : Sm m d := ⟨h.lay, Nat.le_trans h.dep e⟩
theorem sm_ints (l : List Int) : Sm 1 (.list (l.map PyData.int)) := sm_list fun d hd => by
  obtain ⟨i, _, rfl⟩ := List.mem_map.mp hd
  exact sm_int i
def repD (U : ToldS) : PyData := .tuple [.list (U.letters.map PyData.int), .bool U.opened, .list (U.got.map PyData.int)]
theorem sm_rep (U : ToldS) : Sm 2 (repD U) := sm_tuple fun d hd => by
  simp only [List.mem_cons, List.not_mem_nil, or_false] at hd
  rcases hd with rfl | rfl | rfl
  · exact sm_ints _
  · exact (sm_bool _).mono (by decide)
  · exact sm_ints _
theorem sm_reps (Us : List ToldS) : Sm 3 (.list (Us.map repD)) := sm_list fun d hd => by
  obtain ⟨i, _, rfl⟩ := List.mem_map.mp hd
  exact sm_rep i
theorem dp_it {K : PySem.W.Frag} {H : Hp} {z : Addr × Addr × Addr} {U : ToldS} (h : ItAt H z U) : Dp K H (.ref z.1) (repD U) := by
  obtain ⟨h1, h2, h3⟩ := h
  exact .tup (SqT.of h1) (.cons (.lst (SqL.of h2) (dp_flatInts K H _)) (.cons (.bl _) (.cons (.lst (SqL.of h3) (dp_flatInts K H _)) .nil)))
theorem dp_its {K : PySem.W.Frag} {H : Hp} : ∀ {rs : List (Addr × Addr × Addr)} {Us : List ToldS}, Paired (ItAt H) rs Us → DpAll K H (rs.map fun z => V.ref z.1) (Us.map repD)
  | _, _, .nil => .nil
  | _, _, .cons r t => .cons (dp_it r) (dp_its t)
/-- a list of reports, however it is made -/
def DueAt (H : Hp) (u : Addr) (Us : List ToldS) : Prop := ∃ rs : List (Addr × Addr × Addr), H u = some (.lst (rs.map fun z => V.ref z.1)) ∧ Paired (ItAt H) rs Us
theorem DueAt.dp {K : PySem.W.Frag} {H : Hp} {u : Addr} {Us : List ToldS} (h : DueAt H u Us) : Dp K H (.ref u) (.list (Us.map repD)) := by
  obtain ⟨rs, h1, h2⟩ := h
  exact .lst (SqL.of h1) (dp_its h2)
theorem ItAt.same {H H' : Hp} {z : Addr × Addr × Addr} {U : ToldS} (s : Same H H') (h : ItAt H z U) : ItAt H' z U := ⟨s _ _ h.1, s _ _ h.2.1, s _ _ h.2.2⟩
theorem DueAt.same {H H' : Hp} {u : Addr} {Us : List ToldS} (s : Same H H') (h : DueAt H u Us) : DueAt H' u Us := by
  obtain ⟨rs, h1, h2⟩ := h
  exact ⟨rs, s _ _ h1, paired_map (fun z U _ hz => hz.same s) h2⟩
theorem RepAt.due {H0 H : Hp} {p : Addr} {Us : List ToldS} (h : RepAt H0 H p Us) : DueAt H p Us := by
  obtain ⟨rs, h1, h2, _⟩ := h
  exact ⟨rs, h1, h2⟩
theorem sok {x : Str} (h : PyData.canLay0 (.str x) = true) : Sm 0 (.str x) := ⟨h, Nat.le_refl _⟩
def deedD : Deed → PyData
  | .bring l s => .tuple [.str "bring", .bool l, .bool s]
  | .code p t s => .tuple [.str "code", .int p, .bool t, .bool s]
  | .pass => .tuple [.str "pass"]
  | .day => .tuple [.str "day"]
  | .power => .tuple [.str "power"]
theorem sm_deed (d : Deed) : Sm 1 (deedD d) := by
  cases d with
  | bring l s =>
    refine sm_tuple fun d hd => ?_
    simp only [List.mem_cons, List.not_mem_nil, or_false] at hd
    rcases hd with rfl | rfl | rfl
    · exact sok (by decide +kernel)
    · exact sm_bool _
    · exact sm_bool _
  | code p t s =>
    refine sm_tuple fun d hd => ?_
    simp only [List.mem_cons, List.not_mem_nil, or_false] at hd
    rcases hd with rfl | rfl | rfl | rfl
    · exact sok (by decide +kernel)
    · exact sm_int _
    · exact sm_bool _
    · exact sm_bool _
  | _ =>
    refine sm_tuple fun d hd => ?_
    simp only [List.mem_cons, List.not_mem_nil, or_false] at hd
    rcases hd with rfl
    exact sok (by decide +kernel)
theorem dp_deed {K : PySem.W.Frag} {H : Hp} {v : V} {d : Deed} (h : DeedAt K H v d) : Dp K H v (deedD d) := by
  obtain ⟨a, rfl, h⟩ := h
  cases d with
  | bring l s => exact .tup h (.cons (.str _) (.cons (.bl _) (.cons (.bl _) .nil)))
  | code p t s => exact .tup h (.cons (.str _) (.cons (.int _) (.cons (.bl _) (.cons (.bl _) .nil))))
  | pass => exact .tup h (.cons (.str _) .nil)
  | day => exact .tup h (.cons (.str _) .nil)
  | power => exact .tup h (.cons (.str _) .nil)
theorem dp_deeds {K : PySem.W.Frag} {H : Hp} : ∀ {xs : List V} {ds : List Deed}, DeedsAt K H xs ds → DpAll K H xs (ds.map deedD)
  | _, _, .nil => .nil
  | _, _, .cons r t => .cons (dp_deed r) (dp_deeds t)
theorem sm_deeds (ds : List Deed) : Sm 2 (.list (ds.map deedD)) := sm_list fun d hd => by
  obtain ⟨i, _, rfl⟩ := List.mem_map.mp hd
  exact sm_deed i
theorem nilD {K : PySem.W.Frag} {H : Hp} {a : Addr} (h : H a = some (.lst [])) : Dp K H (.ref a) (.list []) := .lst (SqL.of h) .nil
theorem sm_nil : Sm 1 (.list []) := sm_list fun d hd => by cases hd
section
variable {P : Program} {w : World} {K : PySem.W.Frag} {mg : Str → Option Value} {base : Heap}
def sp_law_is_whole (K : PySem.W.Frag) : Sp := fun vs H Q _ => ∃ n : Int, vs = [.int n] ∧ Q (.bl true) H
set_option maxHeartbeats 2000000 in
theorem ok_law_is_whole (T : Txt K mg) {fd : FuncData} (F : FunD K d_law_is_whole.name d_law_is_whole.qual d_law_is_whole.params d_law_is_whole.body d_law_is_whole.scope (d_law_is_whole.dvs K) (d_law_is_whole.kws K) (He.fAd K d_law_is_whole.at_) fd) : FnOk P w K mg base C8.CX0 1 (He.fAd K d_law_is_whole.at_) fd ["thing"] (sp_law_is_whole K) := by
  refine F.ok sc_law_is_whole (fun vs H Q E h => ?_) (fun cdv A outer s H vs Q E hr h => ?_)
  · obtain ⟨n, rfl, _⟩ := h
    rfl
  · have hu := L2.hu_of hr
    obtain ⟨n, rfl, q⟩ := h
    refine ⟨_, (PSs.nox ((pss_one (ps_ret (pe_and (pe_callB (My.isiK (K := K) rfl) (by rfl) T.isinstance (by decide +kernel) (pa_cons (pv 0) (pa_cons (pe_bltn (v := .ty "int") (u := .type "int") rfl T.int (by decide +kernel) rfl) pa_nil))) (pe_one (pe_not (pe_callB (My.isiK (K := K) rfl) (by rfl) T.isinstance (by decide +kernel) (pa_cons (pv 0) (pa_cons (pe_bltn (v := .ty "bool") (u := .type "bool") rfl T.bool (by decide +kernel) rfl) pa_nil)))))))))), ?_⟩
    refine ⟨_, rfl, _, _, _, _, _, rfl, .ty "int", .base (.int n), L2.kit_ty (by decide +kernel), true, rfl, ?_⟩
    exact ⟨_, rfl, _, _, _, _, _, rfl, .ty "bool", .base (.int n), L2.kit_ty (by decide +kernel), false, rfl, q⟩
theorem c_law_is_whole (T : Txt K mg) : C8.Cal P w K mg base 1 "_law_is_whole" (sp_law_is_whole K) [] := by
  obtain ⟨fd, F⟩ := T.f_law_is_whole
  exact ⟨_, fd, _, _, ok_law_is_whole T F, T.g_law_is_whole, F.kp, F.bindsN (fun _ _ _ _ _ _ us hl => match us, hl with | [_], _ => rfl), .nil⟩
def sp_law_is_report (K : PySem.W.Frag) : Sp := fun vs H Q _ => ∃ (z : Addr × Addr × Addr) (U : ToldS), vs = [.ref z.1] ∧ ItAt H z U ∧ U.letters.length + U.got.length ≤ 2000000 ∧ ∀ H', Same H H' → Q (.bl true) H'
end
end K29

namespace K29
open PySem PySem.Spec PyProof.Rows L2 My
/-! ### how it stands, what is wrong -/
/-- what boxes should tell, however it is made -/
def StdDue (H : Hp) (u : Addr) (S : BoxS) : Prop := ∃ (l1 l2 : Addr) (ys : List Int), H u = some (.tup [.bl S.ajar, .ref l1, .str S.tf, .ref l2, oV S.age]) ∧ H l1 = some (.lst (S.inside.map V.int)) ∧ H l2 = some (.lst (ys.map V.int)) ∧ ys.Perm S.valid ∧ ys.Pairwise (· ≤ ·)
def oD : Option Int → PyData
  | some i => .int i
  | none => .none
def stdD (S : BoxS) (ys : List Int) : PyData := .tuple [.bool S.ajar, .list (S.inside.map PyData.int), .str S.tf, .list (ys.map PyData.int), oD S.age]
theorem sm_oD (o : Option Int) : Sm 0 (oD o) := by
  cases o with
  | none => exact sm_none
  | some i => exact sm_int i
theorem sm_std {S : BoxS} {ys : List Int} (h : PyData.canLay0 (.str S.tf) = true) : Sm 2 (stdD S ys) := sm_tuple fun d hd => by
  simp only [List.mem_cons, List.not_mem_nil, or_false] at hd
  rcases hd with rfl | rfl | rfl | rfl | rfl
  · exact (sm_bool _).mono (by decide)
  · exact sm_ints _
  · exact (sok h).mono (by decide)
  · exact sm_ints _
  · exact (sm_oD _).mono (by decide)
theorem dp_oV {K : PySem.W.Frag} {H : Hp} (o : Option Int) : Dp K H (oV o) (oD o) := by
  cases o with
  | none => exact .non
  | some i => exact .int i
theorem dp_std {K : PySem.W.Frag} {H : Hp} {u l1 l2 : Addr} {S : BoxS} {ys : List Int} (h : H u = some (.tup [.bl S.ajar, .ref l1, .str S.tf, .ref l2, oV S.age])) (h1 : H l1 = some (.lst (S.inside.map V.int))) (h2 : H l2 = some (.lst (ys.map V.int))) : Dp K H (.ref u) (stdD S ys) :=
  .tup (SqT.of h) (.cons (.bl _) (.cons (.lst (SqL.of h1) (dp_flatInts K H _)) (.cons (.str _) (.cons (.lst (SqL.of h2) (dp_flatInts K H _)) (.cons (dp_oV _) .nil)))))
theorem ty_oV {K : PySem.W.Frag} {H : Hp} (o : Option Int) : ∃ t, TyX K H (oV o) t ∧ PySem.W.kitOne K t (.type "bool") = some false := by
  cases o with
  | none => exact ⟨_, .base .non, L2.kit_ty (by decide +kernel)⟩
  | some i => exact ⟨_, .base (.int i), L2.kit_ty (by decide +kernel)⟩
section
variable {P : Program} {w : World} {K : PySem.W.Frag} {mg : Str → Option Value} {base : Heap}
def sp_law_stands (K : PySem.W.Frag) : Sp := fun vs H Q _ => ∃ (k a u : Addr) (d : Int) (rs : List RuleL) (xs : List V) (ds : List Deed), vs = [.ref k, .ref a, .ref u] ∧ BookAt K H k d rs ∧ GoodB rs ∧ SqL K H a xs ∧ DeedsAt K H xs ds ∧ Playable ds ∧ ds.length ≤ 50000 ∧ (runF rs d ds).2.1.valid.length ≤ 50000 ∧
  StdDue H u (runF rs d ds).2.1 ∧ PyData.canLay0 (.str (runF rs d ds).2.1.tf) = true ∧ (runF rs d ds).2.1.inside.length ≤ 900000 ∧ ∀ H', Same H H' → Q (.bl true) H'
def FltDue (H : Hp) (u : Addr) (l : List (Str × Nat)) : Prop := ∃ us : List Addr, H u = some (.lst (us.map V.ref)) ∧ Paired (FItAt H) us l
def fltD (l : List (Str × Nat)) : PyData := .list (l.map fun x => .tuple [.str x.1, .int (x.2 : Nat)])
theorem sm_flt {l : List (Str × Nat)} (h : ∀ x ∈ l, PyData.canLay0 (.str x.1) = true) : Sm 2 (fltD l) := sm_list fun d hd => by
  obtain ⟨x, hx, rfl⟩ := List.mem_map.mp hd
  refine sm_tuple fun d hd => ?_
  simp only [List.mem_cons, List.not_mem_nil, or_false] at hd
  rcases hd with rfl | rfl
  · exact sok (h x hx)
  · exact sm_int _
theorem dp_flts {K : PySem.W.Frag} {H : Hp} : ∀ {us : List Addr} {l : List (Str × Nat)}, Paired (FItAt H) us l → DpAll K H (us.map V.ref) (l.map fun x => .tuple [.str x.1, .int (x.2 : Nat)])
  | _, _, .nil => .nil
  | _, _, .cons r t => .cons (.tup (SqT.of r) (.cons (.str _) (.cons (.int _) .nil))) (dp_flts t)
theorem FltDue.dp {K : PySem.W.Frag} {H : Hp} {u : Addr} {l : List (Str × Nat)} (h : FltDue H u l) : Dp K H (.ref u) (fltD l) := by
  obtain ⟨us, h1, h2⟩ := h
  exact .lst (SqL.of h1) (dp_flts h2)
theorem FltDue.same {H H' : Hp} {u : Addr} {l : List (Str × Nat)} (s : Same H H') (h : FltDue H u l) : FltDue H' u l := by
  obtain ⟨us, h1, h2⟩ := h
  exact ⟨us, s _ _ h1, paired_map (fun z U _ hz => s _ _ hz) h2⟩
theorem FltAt.due {H0 H : Hp} {p : Addr} {l : List (Str × Nat)} (h : FltAt H0 H p l) : FltDue H p l := by
  obtain ⟨us, h1, h2, _⟩ := h
  exact ⟨us, h1, h2⟩
def sp_law_wrong (K : PySem.W.Frag) : Sp := fun vs H Q _ => ∃ (k a u : Addr) (d : Int) (rs : List RuleL) (xs : List V) (ds : List Deed), vs = [.ref k, .ref a, .ref u] ∧ BookAt K H k d rs ∧ GoodB rs ∧ SqL K H a xs ∧ DeedsAt K H xs ds ∧ Playable ds ∧ ds.length ≤ 50000 ∧
  FltDue H u (fl 0 (runF rs d ds).2.2) ∧ (∀ x ∈ fl 0 (runF rs d ds).2.2, PyData.canLay0 (.str x.1) = true) ∧ ∀ H', Same H H' → Q (.bl true) H'
set_option maxHeartbeats 2000000 in
theorem ok_law_wrong (T : Txt K mg) {fd : FuncData} (F : FunD K d_law_wrong.name d_law_wrong.qual d_law_wrong.params d_law_wrong.body d_law_wrong.scope (d_law_wrong.dvs K) (d_law_wrong.kws K) (He.fAd K d_law_wrong.at_) fd) : FnOk P w K mg base C8.CX0 9 (He.fAd K d_law_wrong.at_) fd ["work", "acts", "due"] (sp_law_wrong K) := by
  have k_faults := k_faults (P := P) (w := w) (base := base) T
  have c_law_is_whole := c_law_is_whole (P := P) (w := w) (base := base) T
  have c_faults := c_faults (P := P) (w := w) (base := base) T
  refine F.ok sc_law_wrong (fun vs H Q E h => ?_) (fun cdv A outer s H vs Q E hr h => ?_)
  · obtain ⟨k, a, u, d, rs, xs, ds, rfl, _⟩ := h
    rfl
  · have hu := L2.hu_of hr
    obtain ⟨k, a, u, d, rs, xs, ds, rfl, hk, hg, hS, hD, hP, hl, hu1, htf, q⟩ := h
    refine ⟨_, (PSs.nox ((pss_cons (ps_set (i := 3) sc_law_wrong.nd rfl (by first | exact Or.inl rfl | exact Or.inr rfl) (pe_callTy (My.list_ofK (K := K) rfl) (by rfl) T.list (by decide +kernel) (pa_cons (pv 1) pa_nil)))
  (pss_cons (ps_set (i := 4) sc_law_wrong.nd rfl (by first | exact Or.inl rfl | exact Or.inr rfl) (C8.pe_c c_faults hr (by decide) rfl (pa_cons (pv 0) (pa_cons (pv 3) pa_nil))))
  (pss_cons (ps_if (PW.pt (pw_or (pt_not (pt_val (pe_callB (My.isiK (K := K) rfl) (by rfl) T.isinstance (by decide +kernel) (pa_cons (pv 4) (pa_cons (pe_bltn (v := .ty "list") (u := .type "list") rfl T.list (by decide +kernel) rfl) pa_nil))))) (pw_or1 (pt_cmpR (My.neDK (K := K) rfl hr.units) (pv 4) (pv 2) (nomark _)))))
  (pss_one (ps_ret pe_bl))
  pss_nil)
  (pss_cons (ps_if (pt_cmpR (My.neDK (K := K) rfl hr.units) (pe_lc (own := [("one", 5)]) (g := (gName 5)) (by rfl) sc_law_wrong.nd (My.pi_listK (K := K) rfl (pv 4)) (blkOk_by (N := N_law_wrong) (sc := defScope s_law_wrong) (by decide +kernel)) (fun _ _ _ _ _ => (pg_name (i := 5) sc_law_wrong.nd rfl (by first | exact Or.inl rfl | exact Or.inr rfl))) (fun _ _ _ _ _ => (pts_one (PW.pt (pw_or (pt_not (pt_val (pe_callB (My.isiK (K := K) rfl) (by rfl) T.isinstance (by decide +kernel) (pa_cons (pv 5) (pa_cons (pe_bltn (v := .ty "tuple") (u := .type "tuple") rfl T.tuple (by decide +kernel) rfl) pa_nil))))) (pw_or1 (pt_not (pt_val (C8.pe_c c_law_is_whole hr (by decide) rfl (pa_cons (pe_ix (My.ix_tupK (K := K) rfl) (pv 5) pe_int (fun _ _ => rfl)) pa_nil))))))))) (fun _ _ _ _ _ => (pv 5))) (pe_lst pa_nil) (nomark _))
  (pss_one (ps_ret pe_bl))
  pss_nil)
  (pss_cons (ps_expr (My.pe_bmK (K := K) rfl PySem.F.plainAttrs_list PySem.F.slot_list_append PySem.F.type_list_append mt_append (pv 4) (pa_cons pe_int pa_nil)))
  (pss_one (ps_ret (pe_and (pe_cmpR (My.eqDK (K := K) rfl hr.units) (My.pe_kw2 k_faults hr (by decide) rfl (pk_cons (pv 3) (pk_cons (pv 0) pk_nil))) (pv 2) (nomark _)) (pe_one (pe_cmpR (My.eqDK (K := K) rfl hr.units) (pv 3) (pv 1) (nomark _))))))))))))), ?_⟩
    refine ⟨_, rfl, a, xs, rfl, .inl hS, fun c hc => ?_⟩
    have sc := same_new (o := .lst xs) hc
    refine ⟨_, rfl, _, rfl, k, c, d, rs, xs, ds, rfl, hk.same sc, hg, SqL.of upd_same, hD.same sc, hP, hl, fun H1 p s1 hR => ?_⟩
    have hrl := fl_len 0 _ (run_w rs d ds)
    rw [runF_len] at hrl
    generalize hUs : fl 0 (runF rs d ds).2.2 = Us at hR hu1 htf hrl
    have hR1 := hR.due
    obtain ⟨ts, hp, htd, hp0⟩ := hR
    have sH := sc.trans s1
    refine ⟨_, rfl, _, _, _, _, _, rfl, .ty "list", tyx_lst (SqL.of hp), L2.kit_ty (by decide +kernel), true, rfl, ?_⟩
    refine ⟨_, rfl, _, rfl, fltD Us, fltD Us, hR1.dp, (hu1.same sH).dp, (sm_flt htf).shaped (by decide), (sm_flt htf).shaped (by decide), ?_⟩
    rw [(sm_flt htf).refl]
    refine ⟨_, rfl, _, rfl, p, rfl, ⟨_, SqL.of hp⟩, fun D hDn => ?_⟩
    refine lc_list (K := K) (a := p) (xs := ts.map V.ref) (fun i H' => Same H1 H' ∧ H' D = some (.lst [])) ⟨same_new hDn, upd_same⟩ (fun i H' _ z => SqL.of (z.1 _ _ hp)) ?_ ?_
    · rintro i y H2 hi ⟨s2, hD2⟩
      obtain ⟨z, hz, rfl⟩ := map_get hi
      obtain ⟨x, hx, ht⟩ := paired_at htd hz
      have ht2 := SqT.of (K := K) (s2 _ _ ht)
      refine ⟨rfl, _, rfl, _, _, _, _, _, rfl, .ty "tuple", tyx_tup ht2, L2.kit_ty (by decide +kernel), true, rfl, ?_⟩
      refine ⟨_, rfl, _, _, 1, _, rfl, rfl, ht2, rfl, (x.2 : Nat), rfl, true, rfl, s2, hD2⟩
    · rintro H2 ⟨s2, hD2⟩
      refine ⟨Nat.zero_le _, fun e he => ?_⟩
      refine ⟨.list [], .list [], nilD (by rw [upd_ne (ne_of_none hD2 he)]; exact hD2), nilD upd_same, sm_nil.shaped (by decide), sm_nil.shaped (by decide), ?_⟩
      have s3 : Same H1 (upd H2 e (.lst [])) := s2.trans (same_new he)
      generalize upd H2 e (.lst []) = H3 at s3
      have hp3 := s3 _ _ hp
      refine ⟨_, rfl, _, rfl, .inl ⟨rfl, _, SqL.of hp3⟩, p, _, _, rfl, rfl, hp3, by rw [List.length_map, htd.length]; exact lt_line (by omega), ?_⟩
      have s6 := same_upd (o := .lst (ts.map V.ref ++ [.int 7])) (s1.trans s3) hp0
      generalize upd H3 p (.lst (ts.map V.ref ++ [.int 7])) = H6 at s6
      have s06 := sc.trans s6
      have hc6 : SqL K H6 c xs := SqL.of (s6 _ _ upd_same)
      refine ⟨_, rfl, _, rfl, k, c, d, rs, xs, ds, rfl, hk.same s06, hg, hc6, hD.same s06, hP, hl, fun H7 p7 s7 hR7 => ?_⟩
      rw [hUs] at hR7
      have s07 := s06.trans s7
      refine ⟨_, rfl, fltD Us, fltD Us, hR7.due.dp, (hu1.same s07).dp, (sm_flt htf).shaped (by decide), (sm_flt htf).shaped (by decide), ?_⟩
      rw [(sm_flt htf).refl]
      refine ⟨_, rfl, _, rfl, _, rfl, .list (ds.map deedD), .list (ds.map deedD), .lst (s7.seq hc6) (dp_deeds (hD.same s07)), .lst (s07.seq hS) (dp_deeds (hD.same s07)), (sm_deeds ds).shaped (by decide), (sm_deeds ds).shaped (by decide), ?_⟩
      rw [(sm_deeds ds).refl]
      exact q _ s07
theorem c_law_wrong (T : Txt K mg) : C8.Cal P w K mg base 9 "_law_wrong" (sp_law_wrong K) [] := by
  obtain ⟨fd, F⟩ := T.f_law_wrong
  exact ⟨_, fd, _, _, ok_law_wrong T F, T.g_law_wrong, F.kp, F.bindsN (fun _ _ _ _ _ _ us hl => match us, hl with | [_, _, _], _ => rfl), .nil⟩
end
end K29

namespace K29
open PySem PySem.Spec PyProof.Rows L2 My StX
/-! ### the law's own box: a list [is open, inside, taken for, valid, last] -/
def LBx (as : List Addr) (H : Hp) (bx : Addr) (S : BoxS) : Prop := ∃ (l1 l3 : Addr) (ys : List Int), H bx = some (.lst [.bl S.ajar, .ref l1, .str S.tf, .ref l3, .int (S.last.getD 0)]) ∧ H l1 = some (.lst (S.inside.map V.int)) ∧ H l3 = some (.lst (ys.map V.int)) ∧ ys.Perm S.valid ∧ ys.Pairwise (· ≤ ·) ∧
  l1 ≠ bx ∧ l3 ≠ bx ∧ S.valid.Nodup ∧ (∀ p, S.last = some p → 1 ≤ p) ∧ l1 ∉ as ∧ l3 ∉ as
theorem LBx.same {as : List Addr} {H H' : Hp} {bx : Addr} {S : BoxS} (s : Same H H') (h : LBx as H bx S) : LBx as H' bx S := by
  obtain ⟨l1, l3, ys, h1, h2, h3, r⟩ := h
  exact ⟨l1, l3, ys, s _ _ h1, s _ _ h2, s _ _ h3, r⟩
theorem LBx.less {as : List Addr} {H : Hp} {bx L : Addr} {S : BoxS} (h : LBx (L :: as) H bx S) : LBx as H bx S := by
  obtain ⟨l1, l3, ys, h1, h2, h3, h4, h5, h6, h7, h8, h9, h10, h11⟩ := h
  exact ⟨l1, l3, ys, h1, h2, h3, h4, h5, h6, h7, h8, h9, fun z => h10 (List.mem_cons_of_mem _ z), fun z => h11 (List.mem_cons_of_mem _ z)⟩
theorem LBx.new {as : List Addr} {H : Hp} {bx L : Addr} {S : BoxS} (h : LBx as H bx S) (hL : H L = none) : LBx (L :: as) H bx S := by
  obtain ⟨l1, l3, ys, h1, h2, h3, h4, h5, h6, h7, h8, h9, h10, h11⟩ := h
  refine ⟨l1, l3, ys, h1, h2, h3, h4, h5, h6, h7, h8, h9, fun z => ?_, fun z => ?_⟩
  · rcases List.mem_cons.mp z with z | z
    · exact ne_of_none h2 hL z
    · exact h10 z
  · rcases List.mem_cons.mp z with z | z
    · exact ne_of_none h3 hL z
    · exact h11 z
theorem act_T {S : BoxS} {U : ToldS} {a : Str} : (act (S, U) a).1 = (act (S, T0) a).1 ∧ (act (S, U) a).2 = { U with letters := U.letters ++ (act (S, T0) a).2.letters } := by
  have e0 : ∀ V : ToldS, V = { V with letters := V.letters ++ ([] : List Int) } := fun V => by
    cases V
    simp
  unfold act
  split
  · unfold sendCode
    show (if S.tf = "full" then _ else _ : BoxS × ToldS).1 = (if S.tf = "full" then _ else _ : BoxS × ToldS).1 ∧ _
    split
    · cases hl : S.last with
      | none => simp only [hl]; exact ⟨trivial, e0 U⟩
      | some p => simp only [hl]; exact ⟨trivial, rfl⟩
    · exact ⟨rfl, e0 U⟩
  · split
    · exact ⟨rfl, e0 U⟩
    · split
      · exact ⟨rfl, e0 U⟩
      · split
        · exact ⟨rfl, e0 U⟩
        · exact ⟨rfl, e0 U⟩
theorem fold_T : ∀ (r : RuleL) (S : BoxS) (U : ToldS), (r.foldl act (S, U)).1 = (r.foldl act (S, T0)).1 ∧ (r.foldl act (S, U)).2 = { U with letters := U.letters ++ (r.foldl act (S, T0)).2.letters }
  | [], S, U => ⟨rfl, by cases U; simp [T0]⟩
  | a :: r, S, U => by
    obtain ⟨h1, h2⟩ := act_T (S := S) (U := U) (a := a)
    rcases hA : act (S, U) a with ⟨S', U'⟩
    rcases hB : act (S, T0) a with ⟨S0, U0⟩
    rw [hA, hB] at h1 h2
    simp only at h1 h2
    subst h1
    have i1 := fold_T r S' U'
    have i0 := fold_T r S' U0
    rw [List.foldl_cons, List.foldl_cons, hA, hB]
    refine ⟨i1.1.trans i0.1.symm, ?_⟩
    rw [i1.2, i0.2, h2]
    simp only [List.append_assoc]
theorem fold_valid : ∀ (r : RuleL) (x : BoxS × ToldS), x.1.valid.Nodup → (r.foldl act x).1.valid.Nodup
  | [], x, h => h
  | a :: r, x, h => by
    rw [List.foldl_cons]
    refine fold_valid r _ ?_
    unfold act
    split
    · unfold sendCode
      split
      · split
        · rename_i p _
          show (ins p x.1.valid).Nodup
          unfold ins
          split
          · exact h
          · rename_i hn
            exact List.nodup_append.mpr ⟨h, by simp, fun y hy z hz e => hn (by rw [List.mem_singleton.mp hz] at e; rw [← e]; exact hy)⟩
        · exact h
      · exact h
    · split
      · exact List.nodup_nil
      · split
        · exact h
        · split
          · exact h
          · exact h
theorem act_keeps (x : BoxS × ToldS) (a : Str) : (act x a).1.inside = x.1.inside ∧ (act x a).1.last = x.1.last := by
  unfold act
  split
  · unfold sendCode
    split
    · split
      · exact ⟨rfl, rfl⟩
      · exact ⟨rfl, rfl⟩
    · exact ⟨rfl, rfl⟩
  · split
    · exact ⟨rfl, rfl⟩
    · split
      · exact ⟨rfl, rfl⟩
      · split
        · exact ⟨rfl, rfl⟩
        · exact ⟨rfl, rfl⟩
theorem ins_perm {p : Int} {ys vs : List Int} (h : ys.Perm vs) (hn : vs.Nodup) : ((ys.filter fun q => decide (q ≠ p)) ++ [p]).Perm (ins p vs) := by
  have h1 : (ys.filter fun q => decide (q ≠ p)).Perm (vs.filter fun q => decide (q ≠ p)) := h.filter _
  refine (h1.append_right [p]).trans ?_
  unfold ins
  split
  · rename_i hp
    refine List.perm_append_comm.trans ?_
    have : (vs.filter fun q => decide (q ≠ p)) = vs.erase p := by
      rw [hn.erase_eq_filter]
      congr 1
      funext q
      by_cases e : q = p
      · simp [e]
      · simp [e]
    rw [this]
    exact (List.perm_cons_erase hp).symm
  · rename_i hp
    have e2 : vs.filter (fun q => decide (q ≠ p)) = vs := List.filter_eq_self.mpr fun q hq => decide_eq_true (fun e : q = p => hp (e ▸ hq))
    rw [e2]
section
variable {P : Program} {w : World} {K : PySem.W.Frag} {mg : Str → Option Value} {base : Heap}
theorem tupB {K : PySem.W.Frag} {H H' : Hp} {bx L t : Addr} {u v xs : List V} (b : But [bx, L] H H') (h1 : H bx = some (.lst u)) (h2 : H L = some (.lst v)) (h : SqT K H t xs) : SqT K H' t xs := by
  have go : ∀ o, H t = some o → (∀ l, o ≠ .lst l) → H' t = some o := fun o e no => b t o (by
    simp only [List.mem_cons, List.not_mem_nil, or_false, not_or]
    exact ⟨ne_of e h1 (fun z => no _ z), ne_of e h2 (fun z => no _ z)⟩) e
  rcases h with (h | ⟨o, h⟩) | h
  · exact .inl (.inl (go _ h (fun _ z => by cases z)))
  · exact .inl (.inr ⟨o, go _ h (fun _ z => by cases z)⟩)
  · exact .inr h
theorem eqv_nil (l : List Int) : PyData.eqv (.list (l.map PyData.int)) (.list []) = l.isEmpty := by
  cases l with
  | nil => rfl
  | cons x r => rfl
def sp_law_carried (K : PySem.W.Frag) : Sp := fun vs H Q _ => ∃ (t bx : Addr) (r : RuleL) (S : BoxS) (as : List Addr) (n : Nat), vs = [.ref t, .ref bx] ∧ RuleAt K H t r ∧ LBx as H bx S ∧ (∀ x ∈ as, H x ≠ none) ∧ r.length ≤ 6 ∧ Bd n (S, T0) ∧ n ≤ 100000 ∧
  ∀ (H' : Hp) (L : Addr), But [bx] H H' → LBx as H' bx (r.foldl act (S, T0)).1 → H' L = some (.lst ((r.foldl act (S, T0)).2.letters.map V.int)) → H L = none → Q (.ref L) H'
end
end K29

namespace K29
open PySem PySem.Spec PyProof.Rows L2 My StX
def bX0 (p : Int) (S : BoxS) : BoxS := { S with ajar := true, age := some 0, last := some p }
def bF0 (rb : List RuleL) (p : Int) (S : BoxS) : BoxS × ToldS := (at_ rb 0).foldl act (bX0 p S, T0)
def bX1 (rb : List RuleL) (p : Int) (l : Bool) (S : BoxS) : BoxS := if l = true ∧ (bF0 rb p S).1.ajar = true then { (bF0 rb p S).1 with inside := (bF0 rb p S).1.inside ++ [p] } else (bF0 rb p S).1
def bF1 (rb : List RuleL) (p : Int) (l s : Bool) (S : BoxS) : BoxS × ToldS := (at_ rb (if s = true then 1 else 2)).foldl act ({ bX1 rb p l S with ajar := !s }, T0)
theorem bX1_ajar {rb : List RuleL} {p : Int} {l : Bool} {S : BoxS} : (bX1 rb p l S).ajar = (bF0 rb p S).1.ajar := by
  unfold bX1
  split <;> rfl
theorem bring_T {rb : List RuleL} {p : Int} {l s : Bool} {S : BoxS} (ht : S.tf = "free") :
    (bringF rb p l s S).2.opened = true ∧ (bringF rb p l s S).2.got = [] ∧
    ((bF0 rb p S).1.ajar = false → (bringF rb p l s S).1 = bX1 rb p l S ∧ (bringF rb p l s S).2.letters = (bF0 rb p S).2.letters) ∧
    ((bF0 rb p S).1.ajar = true → (bringF rb p l s S).1 = (bF1 rb p l s S).1 ∧ (bringF rb p l s S).2.letters = (bF0 rb p S).2.letters ++ (bF1 rb p l s S).2.letters) := by
  have e0 : ∃ U : ToldS, carry (at_ rb 0) "given" (bX0 p S, { T0 with opened := true }) = ((bF0 rb p S).1, U) ∧ U.letters = (bF0 rb p S).2.letters ∧ U.opened = true ∧ U.got = [] := by
    have h := fold_T (at_ rb 0) (bX0 p S) { T0 with opened := true, moments := ["given"] }
    refine ⟨(carry (at_ rb 0) "given" (bX0 p S, { T0 with opened := true })).2, ?_, ?_, ?_, ?_⟩
    · exact Prod.ext h.1 rfl
    · show ((at_ rb 0).foldl act (bX0 p S, { T0 with opened := true, moments := ["given"] })).2.letters = _
      rw [h.2]
      rfl
    · show ((at_ rb 0).foldl act (bX0 p S, { T0 with opened := true, moments := ["given"] })).2.opened = _
      rw [h.2]
    · show ((at_ rb 0).foldl act (bX0 p S, { T0 with opened := true, moments := ["given"] })).2.got = _
      rw [h.2]
      rfl
  obtain ⟨U, e0, u1, u2, u3⟩ := e0
  have e1 : ∃ U1 : ToldS, layIn p l ((bF0 rb p S).1, U) = (bX1 rb p l S, U1) ∧ U1.letters = U.letters ∧ U1.opened = U.opened ∧ U1.got = U.got := by
    unfold layIn bX1
    split
    · exact ⟨_, rfl, rfl, rfl, rfl⟩
    · exact ⟨_, rfl, rfl, rfl, rfl⟩
  obtain ⟨U1, e1, v1, v2, v3⟩ := e1
  have e2 : bringF rb p l s S = goAway s "laid" "left" (at_ rb 1) (at_ rb 2) (bX1 rb p l S, U1) := by
    unfold bringF
    rw [if_pos ht]
    show goAway s "laid" "left" (at_ rb 1) (at_ rb 2) (layIn p l (carry (at_ rb 0) "given" (bX0 p S, { T0 with opened := true }))) = _
    rw [e0, e1]
  rw [e2]
  unfold goAway
  by_cases hj : (bF0 rb p S).1.ajar = true
  · have hj1 : (bX1 rb p l S).ajar = true := by rw [bX1_ajar]; exact hj
    rw [if_pos hj1]
    cases s with
    | true =>
      have h := fold_T (at_ rb 1) { bX1 rb p l S with ajar := false } { U1 with moments := U1.moments ++ [("laid" : Str)] }
      rw [if_pos rfl]
      refine ⟨?_, ?_, fun z => absurd (hj.symm.trans z) (by decide), fun _ => ⟨h.1, ?_⟩⟩
      · show ((at_ rb 1).foldl act (_, { U1 with moments := U1.moments ++ [("laid" : Str)] })).2.opened = _
        rw [h.2]; exact v2.trans u2
      · show ((at_ rb 1).foldl act (_, { U1 with moments := U1.moments ++ [("laid" : Str)] })).2.got = _
        rw [h.2]; exact v3.trans u3
      · show ((at_ rb 1).foldl act (_, { U1 with moments := U1.moments ++ [("laid" : Str)] })).2.letters = _
        rw [h.2]
        show U1.letters ++ _ = _
        rw [v1, u1]
        rfl
    | false =>
      have ex : ({ bX1 rb p l S with ajar := !false } : BoxS) = bX1 rb p l S := by
        show ({ bX1 rb p l S with ajar := true } : BoxS) = _
        rw [← hj1]
      have h := fold_T (at_ rb 2) (bX1 rb p l S) { U1 with moments := U1.moments ++ [("left" : Str)] }
      rw [if_neg Bool.false_ne_true]
      have ef : bF1 rb p l false S = (at_ rb 2).foldl act (bX1 rb p l S, T0) := by
        unfold bF1
        rw [ex]
        rfl
      rw [ef]
      refine ⟨?_, ?_, fun z => absurd (hj.symm.trans z) (by decide), fun _ => ⟨h.1, ?_⟩⟩
      · show ((at_ rb 2).foldl act (_, { U1 with moments := U1.moments ++ [("left" : Str)] })).2.opened = _
        rw [h.2]; exact v2.trans u2
      · show ((at_ rb 2).foldl act (_, { U1 with moments := U1.moments ++ [("left" : Str)] })).2.got = _
        rw [h.2]; exact v3.trans u3
      · show ((at_ rb 2).foldl act (_, { U1 with moments := U1.moments ++ [("left" : Str)] })).2.letters = _
        rw [h.2]
        show U1.letters ++ _ = _
        rw [v1, u1]
  · have hj1 : ¬ (bX1 rb p l S).ajar = true := by rw [bX1_ajar]; exact hj
    rw [if_neg hj1]
    exact ⟨v2.trans u2, v3.trans u3, fun _ => ⟨rfl, v1.trans u1⟩, fun z => absurd z hj⟩
section
variable {P : Program} {w : World} {K : PySem.W.Frag} {mg : Str → Option Value} {base : Heap}
theorem rule_ix {H : Hp} {qb : List Addr} {rb : List RuleL} (h : Paired (RuleAt K H) qb rb) (hg : GoodB rb) {i : Nat} (hi : i < 8) : ∃ q, atI (qb.map V.ref) (i : Int) = some (.ref q) ∧ RuleAt K H q (at_ rb i) := by
  obtain ⟨q, h1, h2⟩ := paired_get h (hg.get hi)
  exact ⟨q, atI_nat (by rw [List.getElem?_map, h1]; rfl), h2⟩
theorem tupC {H H' : Hp} {bx t : Addr} {u xs : List V} (b : But [bx] H H') (h1 : H bx = some (.lst u)) (h : SqT K H t xs) : SqT K H' t xs := by
  have go : ∀ o, H t = some o → (∀ l, o ≠ .lst l) → H' t = some o := fun o e no => b t o (by simpa using ne_of e h1 (fun z => no _ z)) e
  rcases h with (h | ⟨o, h⟩) | h
  · exact .inl (.inl (go _ h (fun _ z => by cases z)))
  · exact .inl (.inr ⟨o, go _ h (fun _ z => by cases z)⟩)
  · exact .inr h
theorem LBx.put {as : List Addr} {H H2 : Hp} {bx : Addr} {S S2 : BoxS} (h : LBx as H bx S) (b : But [bx] H H2)
    (e : ∀ l1 l3, H bx = some (.lst [.bl S.ajar, .ref l1, .str S.tf, .ref l3, .int (S.last.getD 0)]) → H2 bx = some (.lst [.bl S2.ajar, .ref l1, .str S2.tf, .ref l3, .int (S2.last.getD 0)])) (ei : S2.inside = S.inside) (ev : S2.valid = S.valid)
    (hp : ∀ p, S2.last = some p → 1 ≤ p) : LBx as H2 bx S2 := by
  obtain ⟨l1, l3, ys, h1, h2, h3, h4, h5, h6, h7, h8, h9, h10, h11⟩ := h
  exact ⟨l1, l3, ys, e _ _ h1, by rw [ei]; exact b _ _ (by simpa using h6) h2, b _ _ (by simpa using h7) h3, by rw [ev]; exact h4, h5, h6, h7, by rw [ev]; exact h8, hp, h10, h11⟩
theorem fold_keeps : ∀ (r : RuleL) (x : BoxS × ToldS), (r.foldl act x).1.inside = x.1.inside ∧ (r.foldl act x).1.last = x.1.last
  | [], x => ⟨rfl, rfl⟩
  | a :: r, x => by
    rw [List.foldl_cons]
    exact ⟨(fold_keeps r _).1.trans (act_keeps x a).1, (fold_keeps r _).2.trans (act_keeps x a).2⟩
/-- a report of the law's own, none of whose lists is one of these -/
def RepB (as : List Addr) (H : Hp) (p : Addr) (U : ToldS) : Prop := ∃ e1 e2, ItAt H (p, e1, e2) U ∧ e1 ∉ as ∧ e2 ∉ as
def sp_law_bring (K : PySem.W.Frag) : Sp := fun vs H Q _ => ∃ (rl bx t : Addr) (p : Int) (qb : List Addr) (rb : List RuleL) (S : BoxS) (as : List Addr) (n : Nat) (l s : Bool), vs = [.ref rl, .ref bx, .ref t, .int p] ∧ H rl = some (.lst (qb.map V.ref)) ∧ Paired (RuleAt K H) qb rb ∧ GoodB rb ∧ rl ≠ bx ∧
  LBx as H bx S ∧ (∀ x ∈ as, H x ≠ none) ∧ bx ∉ as ∧ SqT K H t [.str "bring", .bl l, .bl s] ∧ 1 ≤ p ∧ Bd n (S, T0) ∧ n ≤ 90000 ∧
  ∀ (H' : Hp) (r : Addr), But [bx] H H' → LBx as H' bx (bringF rb p l s S).1 → RepB as H' r (bringF rb p l s S).2 → Q (.ref r) H'
end
end K29

namespace K29
open PySem PySem.Spec PyProof.Rows L2 My StX
def Sprs (H : Hp) (as : List Addr) (n : Nat) : Prop := ∀ x ∈ as, SpringAt H x n
theorem Sprs.mono {H : Hp} {as : List Addr} {n m : Nat} (h : Sprs H as n) (e : n ≤ m) : Sprs H as m := fun x hx => (h x hx).mono e
theorem Sprs.same {H H' : Hp} {as : List Addr} {n : Nat} (s : Same H H') (h : Sprs H as n) : Sprs H' as n := fun x hx => (h x hx).same s
theorem Sprs.draw {H H' : Hp} {as : List Addr} {n m : Nat} {a : Addr} (h : Sprs H as n) (b : But [a] H H') (s : SpringAt H' a m) (e : n ≤ m) : Sprs H' as m := fun x hx => by
  by_cases hxa : x = a
  · rw [hxa]; exact s
  · obtain ⟨w0, w1, w2, h1, h2, h3, h4⟩ := h x hx
    exact ⟨w0, w1, w2, b _ _ (by simpa using hxa) h1, h2, h3, by omega⟩
theorem Sprs.put {H : Hp} {as : List Addr} {n : Nat} {b : Addr} {o o2 : HO} (h : Sprs H as n) (hb : H b = some o) (no : ∀ i r, o ≠ .lst (.int i :: r)) : Sprs (upd H b o2) as n := fun x hx => (h x hx).put ((h x hx).ne hb no)
theorem Sprs.but {H H' : Hp} {as : List Addr} {n : Nat} {b : Addr} (h : Sprs H as n) (s : But [b] H H') (hn : b ∉ as) : Sprs H' as n := fun x hx => by
  obtain ⟨w0, w1, w2, h1, h2⟩ := h x hx
  exact ⟨w0, w1, w2, s _ _ (by simpa using fun e : x = b => hn (e ▸ hx)) h1, h2⟩
theorem rawS {H H' : Hp} {a b : Addr} {n : Nat} {o : HO} (s : But [a] H H') (h : SpringAt H a n) (t : H b = some o) (no : ∀ i r, o ≠ .lst (.int i :: r)) : H' b = some o := s _ _ (by simpa using (h.ne t no).symm) t
theorem tupU {K : PySem.W.Frag} {H : Hp} {D b : Addr} {l xs : List V} {o : HO} (h : H D = some (.lst l)) (t : SqT K H b xs) : SqT K (upd H D o) b xs := by
  rcases t with (t | ⟨o, t⟩) | t
  · exact .inl (.inl (by rw [upd_ne (ne_of t h (fun z => by cases z))]; exact t))
  · exact .inl (.inr ⟨o, by rw [upd_ne (ne_of t h (fun z => by cases z))]; exact t⟩)
  · exact .inr t
theorem trefs_no (zs : List (Addr × Addr × Addr)) (i : Int) (r : List V) : HO.lst (zs.map fun z => V.ref z.1) ≠ .lst (.int i :: r) := by
  intro z
  cases zs with
  | nil => cases z
  | cons x l => cases z
theorem new_rule {K : PySem.W.Frag} {H : Hp} {t : Addr} {r : RuleL} (h : H t = none) : Same H (upd H t (.tup (r.map V.str))) ∧ RuleAt K (upd H t (.tup (r.map V.str))) t r := ⟨same_new h, SqT.of upd_same⟩
theorem paired_append {α β : Type} {F : α → β → Prop} : ∀ {l : List α} {m : List β} {l2 : List α} {m2 : List β}, Paired F l m → Paired F l2 m2 → Paired F (l ++ l2) (m ++ m2)
  | _, _, _, _, .nil, h => h
  | _, _, _, _, .cons r t, h => .cons r (paired_append t h)
theorem LBx.draw {ext : List Addr} {H H' : Hp} {bx a : Addr} {n : Nat} {S : BoxS} (h : LBx ext H bx S) (b : But [a] H H') (hs : SpringAt H a n) (ha : a ∈ ext) : LBx ext H' bx S := by
  obtain ⟨l1, l3, ys, h1, h2, h3, h4, h5, h6, h7, h8, h9, h10, h11⟩ := h
  exact ⟨l1, l3, ys, rawS b hs h1 (fun _ _ z => by cases z), b _ _ (by simpa using fun e : l1 = a => h10 (e ▸ ha)) h2, b _ _ (by simpa using fun e : l3 = a => h11 (e ▸ ha)) h3, h4, h5, h6, h7, h8, h9, h10, h11⟩
theorem LBx.set {ext : List Addr} {H : Hp} {bx a : Addr} {o : HO} {S : BoxS} (h : LBx ext H bx S) (ha : a ∈ ext) (hn : bx ≠ a) : LBx ext (upd H a o) bx S := by
  obtain ⟨l1, l3, ys, h1, h2, h3, h4, h5, h6, h7, h8, h9, h10, h11⟩ := h
  exact ⟨l1, l3, ys, by rw [upd_ne hn]; exact h1, by rw [upd_ne (fun e : l1 = a => h10 (e ▸ ha))]; exact h2, by rw [upd_ne (fun e : l3 = a => h11 (e ▸ ha))]; exact h3, h4, h5, h6, h7, h8, h9, h10, h11⟩
/-! ### what the run of brings and failures keeps -/
theorem runF_snoc (rb : List RuleL) (d : Int) (ds : List Deed) (x : Deed) : runF rb d (ds ++ [x]) = stepF rb d (runF rb d ds) x := by
  unfold runF
  rw [List.foldl_append]
  rfl
def TfOk (x : Str) : Prop := PyData.canLay0 (.str x) = true
theorem acts_ok : ∀ x ∈ acts, TfOk x := by
  intro x hx
  simp only [acts, List.mem_cons, List.not_mem_nil, or_false] at hx
  unfold TfOk
  rcases hx with rfl | rfl | rfl | rfl | rfl | rfl | rfl <;> decide +kernel
theorem act_tf {x : BoxS × ToldS} {a : Str} (h : TfOk x.1.tf) (ha : a ∈ acts) : TfOk (act x a).1.tf ∧ (act x a).1.age = x.1.age := by
  unfold act
  split
  · unfold sendCode
    split
    · split
      · exact ⟨h, rfl⟩
      · exact ⟨h, rfl⟩
    · exact ⟨h, rfl⟩
  · split
    · exact ⟨h, rfl⟩
    · split
      · refine ⟨?_, rfl⟩
        show TfOk (if x.1.inside.isEmpty = true then "free" else "full")
        unfold TfOk
        split <;> decide +kernel
      · split
        · exact ⟨h, rfl⟩
        · exact ⟨acts_ok _ ha, rfl⟩
theorem fold_tf : ∀ (r : RuleL) (x : BoxS × ToldS), (∀ a ∈ r, a ∈ acts) → TfOk x.1.tf → TfOk (r.foldl act x).1.tf ∧ (r.foldl act x).1.age = x.1.age
  | [], x, _, h => ⟨h, rfl⟩
  | a :: r, x, ha, h => by
    rw [List.foldl_cons]
    have h1 := act_tf h (ha a (List.mem_cons_self ..))
    have h2 := fold_tf r (act x a) (fun b hb => ha b (List.mem_cons_of_mem _ hb)) h1.1
    exact ⟨h2.1, h2.2.trans h1.2⟩
structure BoxOk (S : BoxS) : Prop where
  tf : TfOk S.tf
  ag : S.age = S.last.map fun _ => 0
theorem at_acts {rb : List RuleL} (hg : GoodB rb) {i : Nat} (hi : i < 8) : ∀ a ∈ at_ rb i, a ∈ acts := (hg.good _ (List.mem_of_getElem? (hg.get hi))).2
theorem power_ok {rb : List RuleL} {S : BoxS} (hg : GoodB rb) (h : BoxOk S) : BoxOk ((at_ rb 7).foldl act (S, T0)).1 := by
  have h1 := fold_tf (at_ rb 7) (S, T0) (at_acts hg (by decide)) h.tf
  have h2 := fold_keeps (at_ rb 7) (S, T0)
  exact ⟨h1.1, by rw [h1.2, h2.2]; exact h.ag⟩
theorem bring_ok {rb : List RuleL} {p : Int} {l s : Bool} {S : BoxS} (hg : GoodB rb) (h : BoxOk S) : BoxOk (bringF rb p l s S).1 := by
  by_cases cf : S.tf = "free"
  · obtain ⟨_, _, bF, bT⟩ := bring_T (rb := rb) (p := p) (l := l) (s := s) cf
    have h0 := fold_tf (at_ rb 0) (bX0 p S, T0) (at_acts hg (by decide)) h.tf
    have k0 := fold_keeps (at_ rb 0) (bX0 p S, T0)
    have ok1 : BoxOk (bX1 rb p l S) := by
      unfold bX1
      split
      · exact ⟨h0.1, by show (bF0 rb p S).1.age = (bF0 rb p S).1.last.map _; rw [show (bF0 rb p S).1.age = _ from h0.2, show (bF0 rb p S).1.last = _ from k0.2]; rfl⟩
      · exact ⟨h0.1, by rw [show (bF0 rb p S).1.age = _ from h0.2, show (bF0 rb p S).1.last = _ from k0.2]; rfl⟩
    cases haj : (bF0 rb p S).1.ajar with
    | false => rw [(bF haj).1]; exact ok1
    | true =>
      rw [(bT haj).1]
      have hk : (if s = true then 1 else 2) < 8 := by split <;> decide
      have h1 := fold_tf (at_ rb (if s = true then 1 else 2)) ({ bX1 rb p l S with ajar := !s }, T0) (at_acts hg hk) ok1.tf
      have k1 := fold_keeps (at_ rb (if s = true then 1 else 2)) ({ bX1 rb p l S with ajar := !s }, T0)
      exact ⟨h1.1, by rw [show (bF1 rb p l s S).1.age = _ from h1.2, show (bF1 rb p l s S).1.last = _ from k1.2]; exact ok1.ag⟩
  · have eb : bringF rb p l s S = (S, T0) := by unfold bringF; rw [if_neg cf]
    rw [eb]
    exact h
theorem power_T {rb : List RuleL} {S : BoxS} : (powerF rb S).1 = ((at_ rb 7).foldl act (S, T0)).1 ∧ (powerF rb S).2.letters = ((at_ rb 7).foldl act (S, T0)).2.letters ∧ (powerF rb S).2.opened = false ∧ (powerF rb S).2.got = [] := by
  have h := fold_T (at_ rb 7) S { T0 with moments := ["power"] }
  unfold powerF carry
  refine ⟨h.1, ?_, ?_, ?_⟩
  · show ((at_ rb 7).foldl act (S, { T0 with moments := ["power"] })).2.letters = _
    rw [h.2]
    rfl
  · show ((at_ rb 7).foldl act (S, { T0 with moments := ["power"] })).2.opened = _
    rw [h.2]
    rfl
  · show ((at_ rb 7).foldl act (S, { T0 with moments := ["power"] })).2.got = _
    rw [h.2]
    rfl
theorem bring_got {rb : List RuleL} {p : Int} {l s : Bool} {S : BoxS} : (bringF rb p l s S).2.got = [] := by
  by_cases cf : S.tf = "free"
  · exact (bring_T (rb := rb) (p := p) (l := l) (s := s) cf).2.1
  · have eb : bringF rb p l s S = (S, T0) := by unfold bringF; rw [if_neg cf]
    rw [eb]
    rfl
end K29

namespace K29
open PySem PySem.Spec PyProof.Rows L2 My StX
theorem act_in (x : BoxS × ToldS) (a : Str) : (act x a).1.inside = x.1.inside := by
  unfold act
  split
  · unfold sendCode
    split
    · split
      · rfl
      · rfl
    · rfl
  · split
    · rfl
    · split
      · rfl
      · split
        · rfl
        · rfl
theorem fold_in : ∀ (r : RuleL) (x : BoxS × ToldS), (r.foldl act x).1.inside = x.1.inside
  | [], x => rfl
  | a :: r, x => by rw [List.foldl_cons, fold_in r, act_in]
theorem foldl_ext (rs : List RuleL) (d : Int) : ∀ (l : List Deed) (st : PlayS), ∃ more, (l.foldl (stepF rs d) st).2.2 = st.2.2 ++ more
  | [], st => ⟨[], by rw [List.append_nil]; rfl⟩
  | x :: l, st => by
    obtain ⟨more, e⟩ := foldl_ext rs d l (stepF rs d st x)
    refine ⟨[(doF rs d (if isBr x = true then st.1 + 1 else st.1) x st.2.1).2] ++ more, ?_⟩
    rw [List.foldl_cons, e, ← List.append_assoc]
    rfl
theorem run_take (rs : List RuleL) (d : Int) (ds : List Deed) (c : Nat) (hc : c ≤ ds.length) : (runF rs d (ds.take c)).2.2 = (runF rs d ds).2.2.take c := by
  have e : runF rs d ds = (ds.drop c).foldl (stepF rs d) (runF rs d (ds.take c)) := by
    unfold runF
    rw [← List.foldl_append, List.take_append_drop]
  obtain ⟨more, h⟩ := foldl_ext rs d (ds.drop c) (runF rs d (ds.take c))
  have hl : (runF rs d (ds.take c)).2.2.length = c := by rw [runF_len, List.length_take]; omega
  have h2 : ((runF rs d (ds.take c)).2.2 ++ more).take c = (runF rs d (ds.take c)).2.2 := by rw [List.take_append_of_le_length (Nat.le_of_eq hl.symm), List.take_of_length_le (Nat.le_of_eq hl)]
  rw [e, h, h2]
theorem run_at (rs : List RuleL) (d : Int) (ds : List Deed) {i : Nat} {x : Deed} {U : ToldS} (hx : ds[i]? = some x) (hU : (runF rs d ds).2.2[i]? = some U) : runF rs d (ds.take (i + 1)) = stepF rs d (runF rs d (ds.take i)) x ∧ U = (doF rs d (if isBr x = true then (runF rs d (ds.take i)).1 + 1 else (runF rs d (ds.take i)).1) x (runF rs d (ds.take i)).2.1).2 := by
  have hi : i < ds.length := (List.getElem?_eq_some_iff.mp hx).1
  have e := runF_more (rs := rs) (d := d) hx
  refine ⟨e, ?_⟩
  have e2 := run_take rs d ds (i + 1) hi
  rw [e] at e2
  have e3 := run_take rs d ds i (Nat.le_of_lt hi)
  have hl : (runF rs d (ds.take i)).2.2.length = i := by rw [runF_len, List.length_take]; omega
  have h4 : ((runF rs d ds).2.2.take (i + 1))[i]? = some U := by rw [List.getElem?_take_of_lt (Nat.lt_succ_self i)]; exact hU
  rw [← e2] at h4
  have h5 : ((runF rs d (ds.take i)).2.2 ++ [(doF rs d (if isBr x = true then (runF rs d (ds.take i)).1 + 1 else (runF rs d (ds.take i)).1) x (runF rs d (ds.take i)).2.1).2])[i]? = some U := h4
  rw [List.getElem?_append_right (by omega), hl, Nat.sub_self] at h5
  exact (Option.some.inj h5).symm
theorem take_got (rs : List RuleL) (d n : Int) (x : Deed) (S : BoxS) : (doF rs d n x S).2.got.length ≤ S.inside.length := by
  have cg : ∀ (r : RuleL) (y : BoxS × ToldS), (r.foldl act y).2.got = y.2.got := by
    intro r
    induction r with
    | nil => intro y; rfl
    | cons a r ih =>
      intro y
      rw [List.foldl_cons, ih]
      unfold act
      split
      · unfold sendCode
        split
        · split
          · rfl
          · rfl
        · rfl
      · split
        · rfl
        · split
          · rfl
          · split
            · rfl
            · rfl
  have ci : ∀ (r : RuleL) (y : BoxS × ToldS), (r.foldl act y).1.inside = y.1.inside := fold_in
  have cc : ∀ (r : RuleL) (m : Str) (y : BoxS × ToldS), (carry r m y).2.got = y.2.got := fun r m y => cg r _
  have go : ∀ (sh : Bool) (m1 m2 : Str) (r1 r2 : RuleL) (y : BoxS × ToldS), (goAway sh m1 m2 r1 r2 y).2.got = y.2.got := by
    intro sh m1 m2 r1 r2 y
    unfold goAway
    split
    · split
      · exact cc _ _ _
      · exact cc _ _ _
    · rfl
  have aw : ∀ (c : Bool) (wd : Str) (y : BoxS × ToldS), (addW c wd y).2.got = y.2.got := by
    intro c wd y
    unfold addW
    split
    · rfl
    · rfl
  cases x with
  | bring l s =>
    show (bringF rs n l s S).2.got.length ≤ _
    unfold bringF
    split
    · rw [go]
      unfold layIn
      split
      · show (carry _ _ _).2.got.length ≤ _
        rw [cc]
        exact Nat.zero_le _
      · rw [cc]
        exact Nat.zero_le _
    · exact Nat.zero_le _
  | code p t s =>
    show (codeF rs p t s S).2.got.length ≤ _
    unfold codeF
    split
    · rw [go, aw]
      unfold takeIf
      split
      · show (carry _ _ _).1.inside.length ≤ _
        exact Nat.le_of_eq (congrArg List.length (ci (at_ rs 3) ({ S with ajar := true }, { T0 with opened := true, moments := ["opened"] })))
      · rw [cc]
        exact Nat.zero_le _
    · rw [aw]
      exact Nat.zero_le _
  | pass =>
    show (passBy S).2.got.length ≤ _
    unfold passBy
    split
    · exact Nat.le_refl _
    · exact Nat.zero_le _
  | day =>
    show (dayF d rs S).2.got.length ≤ _
    unfold dayF
    split
    · exact Nat.zero_le _
    · split
      · rw [cc]
        exact Nat.zero_le _
      · exact Nat.zero_le _
  | power =>
    show (powerF rs S).2.got.length ≤ _
    unfold powerF
    rw [cc]
    exact Nat.zero_le _
theorem bdU_of {rs : List RuleL} {d : Int} {ds : List Deed} (hg : GoodB rs) (hl : ds.length ≤ 240) : ∀ U ∈ (runF rs d ds).2.2, U.letters.length ≤ 4000 ∧ U.got.length ≤ 4000 := fun U hU => by
  obtain ⟨i, hi⟩ := List.mem_iff_getElem?.mp hU
  obtain ⟨x, hx⟩ : ∃ x, ds[i]? = some x := ⟨_, List.getElem?_eq_getElem (by
    have := (List.getElem?_eq_some_iff.mp hi).1
    rw [runF_len] at this
    exact this)⟩
  obtain ⟨_, eU⟩ := run_at rs d ds hx hi
  have hil : i < ds.length := (List.getElem?_eq_some_iff.mp hx).1
  have hb := runF_bd (d := d) hg ds i (Nat.le_of_lt hil)
  have hbd := hb.doF hg (d := d) (k := if isBr x = true then (runF rs d (ds.take i)).1 + 1 else (runF rs d (ds.take i)).1) (x := x)
  have h1 := hbd.l
  have h2 : (runF rs d (ds.take i)).2.1.inside.length ≤ 16 * i := hb.i
  have h3 := take_got rs d (if isBr x = true then (runF rs d (ds.take i)).1 + 1 else (runF rs d (ds.take i)).1) x (runF rs d (ds.take i)).2.1
  rw [← eU] at h1 h3
  exact ⟨by omega, by omega⟩
end K29

namespace K29
open PySem PySem.Spec PyProof.Rows L2 My StX
/-- the words of faults -/
def OkW (ws : List Str) : Prop := ∀ y ∈ ws, PyData.canLay0 (.str y) = true
theorem OkW.nil : OkW [] := fun y h => by cases h
theorem OkW.add {ws : List Str} {z : Str} (h : OkW ws) (hz : PyData.canLay0 (.str z) = true) : OkW (ws ++ [z]) := fun y hy => by
  rcases List.mem_append.mp hy with hy | hy
  · exact h y hy
  · rw [List.mem_singleton.mp hy]; exact hz
theorem lay_ok {p : Int} {l : Bool} {x : BoxS × ToldS} (h : OkW x.2.wrongs) : OkW (layIn p l x).2.wrongs := by
  unfold layIn
  split
  · show OkW (if x.1.inside.isEmpty = true then x.2.wrongs else x.2.wrongs ++ [("two" : Str)])
    split
    · exact h
    · exact h.add (by decide +kernel)
  · exact h
theorem take_ok {o : Option Int} {x : BoxS × ToldS} (h : OkW x.2.wrongs) : OkW (letTake o x).2.wrongs := by
  show OkW (if x.1.inside.any (fun p => decide (some p ≠ o)) = true then x.2.wrongs ++ [("wrong" : Str)] else x.2.wrongs)
  split
  · exact h.add (by decide +kernel)
  · exact h
theorem addW_ok {c : Bool} {wd : Str} {x : BoxS × ToldS} (h : OkW x.2.wrongs) (hw : PyData.canLay0 (.str wd) = true) : OkW (addW c wd x).2.wrongs := by
  unfold addW
  split
  · exact h.add hw
  · exact h
theorem doF_words (rs : List RuleL) (d n : Int) (x : Deed) (S : BoxS) : OkW (doF rs d n x S).2.wrongs := by
  cases x with
  | bring l s =>
    show OkW (bringF rs n l s S).2.wrongs
    unfold bringF
    split
    · rw [go_w]
      refine lay_ok ?_
      rw [carry_w]
      exact OkW.nil
    · exact OkW.nil
  | code p t s =>
    show OkW (codeF rs p t s S).2.wrongs
    unfold codeF
    split
    · rw [go_w]
      refine addW_ok ?_ (by decide +kernel)
      unfold takeIf
      split
      · refine take_ok ?_
        rw [carry_w]
        exact OkW.nil
      · rw [carry_w]; exact OkW.nil
    · exact addW_ok OkW.nil (by decide +kernel)
  | pass =>
    show OkW (passBy S).2.wrongs
    unfold passBy
    split
    · exact take_ok OkW.nil
    · exact OkW.nil
  | day =>
    show OkW (dayF d rs S).2.wrongs
    unfold dayF
    split
    · exact OkW.nil
    · split
      · rw [carry_w]; exact OkW.nil
      · exact OkW.nil
  | power =>
    show OkW (powerF rs S).2.wrongs
    unfold powerF
    rw [carry_w]; exact OkW.nil
theorem run_words (rs : List RuleL) (d : Int) (ds : List Deed) : ∀ U ∈ (runF rs d ds).2.2, OkW U.wrongs := by
  have hh : ∀ (l : List Deed) (st : PlayS), (∀ U ∈ st.2.2, OkW U.wrongs) → ∀ U ∈ (l.foldl (stepF rs d) st).2.2, OkW U.wrongs := by
    intro l
    induction l with
    | nil => intro st h; exact h
    | cons z l ih =>
      intro st h
      rw [List.foldl_cons]
      refine ih _ fun U hU => ?_
      rcases List.mem_append.mp (show U ∈ st.2.2 ++ [_] from hU) with hU | hU
      · exact h U hU
      · rw [List.mem_singleton.mp hU]
        exact doF_words _ _ _ _ _
  exact hh ds _ fun U hU => by cases hU
theorem fl_words : ∀ (n : Nat) (Us : List ToldS), (∀ U ∈ Us, OkW U.wrongs) → ∀ x ∈ fl n Us, PyData.canLay0 (.str x.1) = true
  | _, [], _, x, hx => by cases hx
  | n, U :: r, h, x, hx => by
    rcases List.mem_append.mp (show x ∈ flW U n ++ fl (n + 1) r from hx) with hx | hx
    · obtain ⟨y, hy, rfl⟩ := List.mem_map.mp hx
      exact h U (List.mem_cons_self ..) y hy
    · exact fl_words (n + 1) r (fun V hV => h V (List.mem_cons_of_mem _ hV)) x hx
end K29

namespace K29
open PySem PySem.Spec PyProof.Rows L2 My StX
theorem run_cnt (rs : List RuleL) (d : Int) (ds : List Deed) : (runF rs d ds).1 = (brs ds : Int) := by
  have h : ∀ i, i ≤ ds.length → (runF rs d (ds.take i)).1 = (brs (ds.take i) : Int) := by
    intro i
    induction i with
    | zero => intro _; rfl
    | succ i ih =>
      intro hi
      have hx := List.getElem?_eq_getElem (show i < ds.length by omega)
      rw [runF_more (rs := rs) (d := d) hx, take_more hx]
      show (if isBr _ = true then (runF rs d (ds.take i)).1 + 1 else (runF rs d (ds.take i)).1) = _
      rw [ih (by omega)]
      unfold brs
      rw [List.countP_append, List.countP_singleton]
      split <;> simp
  have := h ds.length (Nat.le_refl _)
  rwa [List.take_length] at this
theorem fl_snoc (Us : List ToldS) (U : ToldS) : fl 0 (Us ++ [U]) = fl 0 Us ++ U.wrongs.map fun x => (x, Us.length) := by
  rw [fl_app, Nat.zero_add]
  show _ ++ (flW U Us.length ++ []) = _
  rw [List.append_nil]
  rfl
structure Du (K : PySem.W.Frag) (H H' : Hp) (F Wl il hl : Addr) (inn had : List Int) (zs : List (Addr × Addr × Addr)) (Us : List ToldS) (ws : List Addr) (wl : List (Str × Nat)) : Prop where
  s : Same H H'
  F0 : H F = none
  W0 : H Wl = none
  hF : H' F = some (.lst (zs.map fun z => V.ref z.1))
  hz : Paired (ItAt H') zs Us
  zn : ∀ z ∈ zs, (z.2.1 ≠ F ∧ z.2.2 ≠ F) ∧ (z.2.1 ≠ Wl ∧ z.2.2 ≠ Wl)
  hW : H' Wl = some (.lst (ws.map V.ref))
  hw : Paired (FItAt H') ws wl
  hi : H' il = some (.lst (inn.map V.int))
  hh : H' hl = some (.lst (had.map V.int))
  nFW : F ≠ Wl
  ni : il ≠ F ∧ il ≠ Wl
  nh : hl ≠ F ∧ hl ≠ Wl
section
variable {K : PySem.W.Frag} {H H' H2 : Hp} {F Wl il hl il2 hl2 : Addr} {inn had inn2 had2 : List Int} {zs : List (Addr × Addr × Addr)} {Us : List ToldS} {ws : List Addr} {wl : List (Str × Nat)}
theorem Du.same (h : Du K H H' F Wl il hl inn had zs Us ws wl) (s : Same H' H2) : Du K H H2 F Wl il hl inn had zs Us ws wl :=
  ⟨h.s.trans s, h.F0, h.W0, s _ _ h.hF, paired_map (fun _ _ _ hh => hh.same s) h.hz, h.zn, s _ _ h.hW, paired_map (fun _ _ _ hh => s _ _ hh) h.hw, s _ _ h.hi, s _ _ h.hh, h.nFW, h.ni, h.nh⟩
theorem Du.mv (h : Du K H H' F Wl il hl inn had zs Us ws wl) (e1 : H' il2 = some (.lst (inn2.map V.int))) (e2 : H' hl2 = some (.lst (had2.map V.int))) (n1 : il2 ≠ F ∧ il2 ≠ Wl) (n2 : hl2 ≠ F ∧ hl2 ≠ Wl) : Du K H H' F Wl il2 hl2 inn2 had2 zs Us ws wl :=
  ⟨h.s, h.F0, h.W0, h.hF, h.hz, h.zn, h.hW, h.hw, e1, e2, h.nFW, n1, n2⟩
theorem it_ne {z : Addr × Addr × Addr} {U : ToldS} {a : Addr} {l : List V} {o : HO} (hh : ItAt H' z U) (ha : H' a = some (.lst l)) (n1 : z.2.1 ≠ a) (n2 : z.2.2 ≠ a) : ItAt (upd H' a o) z U := ⟨(upd_ne (ne_of hh.1 ha (fun e => by cases e))).trans hh.1, (upd_ne n1).trans hh.2.1, (upd_ne n2).trans hh.2.2⟩
theorem Du.found {z : Addr × Addr × Addr} {U : ToldS} (h : Du K H H' F Wl il hl inn had zs Us ws wl) (hz : ItAt H' z U) (n1 : z.2.1 ≠ F ∧ z.2.2 ≠ F) (n2 : z.2.1 ≠ Wl ∧ z.2.2 ≠ Wl) : Du K H (upd H' F (.lst ((zs.map fun z => V.ref z.1) ++ [.ref z.1]))) F Wl il hl inn had (zs ++ [z]) (Us ++ [U]) ws wl :=
  ⟨same_upd h.s h.F0, h.F0, h.W0, by rw [upd_same, List.map_append]; rfl, Paired.snoc (paired_map (fun y _ hy hh => it_ne hh h.hF (h.zn y hy).1.1 (h.zn y hy).1.2) h.hz) (it_ne hz h.hF n1.1 n1.2), fun y hy => by
    rcases List.mem_append.mp hy with hy | hy
    · exact h.zn y hy
    · rw [List.mem_singleton.mp hy]; exact ⟨n1, n2⟩, (upd_ne h.nFW.symm).trans h.hW, paired_map (fun t x _ (hh : FItAt H' t x) => (upd_ne (ne_of hh h.hF (fun e => by cases e))).trans hh) h.hw, (upd_ne h.ni.1).trans h.hi, (upd_ne h.nh.1).trans h.hh, h.nFW, h.ni, h.nh⟩
theorem Du.wrong {t : Addr} {x : Str × Nat} (h : Du K H H' F Wl il hl inn had zs Us ws wl) (ht : FItAt H' t x) : Du K H (upd H' Wl (.lst (ws.map V.ref ++ [.ref t]))) F Wl il hl inn had zs Us (ws ++ [t]) (wl ++ [x]) :=
  ⟨same_upd h.s h.W0, h.F0, h.W0, (upd_ne h.nFW).trans h.hF, paired_map (fun y _ hy hh => it_ne hh h.hW (h.zn y hy).2.1 (h.zn y hy).2.2) h.hz, h.zn, by rw [upd_same, List.map_append]; rfl, Paired.snoc (paired_map (fun t x _ (hh : FItAt H' t x) => (upd_ne (ne_of hh h.hW (fun e => by cases e))).trans hh) h.hw) ((upd_ne (ne_of ht h.hW (fun e => by cases e))).trans ht), (upd_ne h.ni.2).trans h.hi, (upd_ne h.nh.2).trans h.hh, h.nFW, h.ni, h.nh⟩
end
end K29

namespace K29
open PySem PySem.Spec PyProof.Rows L2 My StX
/-! ### rules of codes and locks -/
def CL (r : RuleL) : Prop := ∀ a ∈ r, a = ("code" : Str) ∨ a = ("lock" : Str)
def noL (r : RuleL) : Bool := !decide (("lock" : Str) ∈ r)
def cc (r : RuleL) : Nat := r.count ("code" : Str)
def cv (m : Nat) (p : Int) (l : List Int) : List Int := if m = 0 then l else ins p l
theorem ins_ins {p : Int} {l : List Int} : ins p (ins p l) = ins p l := by
  have h : p ∈ ins p l := by
    unfold ins
    split
    · assumption
    · exact List.mem_append_right _ (List.mem_singleton.mpr rfl)
  show (if p ∈ ins p l then ins p l else ins p l ++ [p]) = ins p l
  rw [if_pos h]
theorem cv_cv {m k : Nat} {p : Int} {l : List Int} : cv m p (cv k p l) = cv (k + m) p l := by
  unfold cv
  by_cases hm : m = 0
  · subst hm
    rw [if_pos rfl, Nat.add_zero]
  · rw [if_neg hm, if_neg (show ¬ k + m = 0 by omega)]
    split
    · rfl
    · exact ins_ins
theorem foldCL {p : Int} : ∀ (r : RuleL) (S : BoxS) (U : ToldS), CL r → S.tf = "full" → S.last = some p →
    r.foldl act (S, U) = ({ S with ajar := S.ajar && noL r, valid := cv (cc r) p S.valid, sent := cv (cc r) p S.sent }, { U with letters := U.letters ++ List.replicate (cc r) p })
  | [], S, U, _, _, _ => by
    rw [List.foldl_nil]
    have e1 : noL [] = true := rfl
    have e2 : cc [] = 0 := rfl
    rw [e1, e2, Bool.and_true, List.replicate_zero, List.append_nil]
    rfl
  | a :: r, S, U, h, ht, hp => by
    have hr : CL r := fun x hx => h x (List.mem_cons_of_mem _ hx)
    rw [List.foldl_cons]
    rcases h a (List.mem_cons_self ..) with e | e
    · subst e
      have ea : act (S, U) "code" = ({ S with valid := ins p S.valid, sent := ins p S.sent }, { U with letters := U.letters ++ [p] }) := by
        unfold act
        rw [if_pos rfl]
        unfold sendCode
        rw [if_pos ht]
        simp only [hp]
      have e1 : noL ("code" :: r) = noL r := by
        unfold noL
        congr 1
        exact decide_eq_decide.mpr ⟨fun z => (List.mem_cons.mp z).resolve_left (by decide), fun z => List.mem_cons_of_mem _ z⟩
      have e2 : cc ("code" :: r) = cc r + 1 := by unfold cc; rw [List.count_cons_self]
      have e3 : ∀ l : List Int, cv (cc r) p (ins p l) = cv (cc r + 1) p l := fun l => by
        have : ins p l = cv 1 p l := rfl
        rw [this, cv_cv, Nat.add_comm]
      rw [ea]
      refine (foldCL (p := p) r { S with valid := ins p S.valid, sent := ins p S.sent } { U with letters := U.letters ++ [p] } hr ht hp).trans ?_
      rw [e1, e2, List.replicate_succ, ← e3, ← e3]
      show (_, ToldS.mk ((U.letters ++ [p]) ++ _) _ _ _ _) = _
      rw [List.append_assoc]
      rfl
    · subst e
      have ea : act (S, U) "lock" = ({ S with ajar := false }, U) := by
        unfold act
        rw [if_neg (by decide), if_neg (by decide), if_neg (by decide), if_pos rfl]
      have e1 : noL ("lock" :: r) = false := by
        unfold noL
        rw [decide_eq_true (List.mem_cons_self ..)]
        rfl
      have e2 : cc ("lock" :: r) = cc r := by unfold cc; rw [List.count_cons_of_ne (by decide)]
      rw [ea]
      refine (foldCL (p := p) r { S with ajar := false } U hr ht hp).trans ?_
      rw [e1, e2, Bool.and_false]
      rfl
theorem carryCL {p : Int} {r : RuleL} {m : Str} {S : BoxS} {U : ToldS} (h : CL r) (ht : S.tf = "full") (hp : S.last = some p) :
    carry r m (S, U) = ({ S with ajar := S.ajar && noL r, valid := cv (cc r) p S.valid, sent := cv (cc r) p S.sent }, { U with letters := U.letters ++ List.replicate (cc r) p, moments := U.moments ++ [m] }) := by
  unfold carry
  rw [foldCL r _ _ h ht hp]
end K29

namespace K29
open PySem PySem.Spec PyProof.Rows L2 My StX
theorem playable_snoc {ds : List Deed} {dd : Deed} (h : Playable ds) (hd : ∀ p t s, dd = Deed.code p t s → 1 ≤ p ∧ p ≤ (brs ds : Int)) (hl : ds.length < 100000000) : Playable (ds ++ [dd]) := by
  refine ⟨by rw [List.length_append]; exact hl, fun i p t s e => ?_⟩
  by_cases hi : i < ds.length
  · rw [List.getElem?_append_left hi] at e
    rw [List.take_append_of_le_length (Nat.le_of_lt hi)]
    exact h.2 i p t s e
  · have hi2 : i = ds.length := by
      have := (List.getElem?_eq_some_iff.mp e).1
      rw [List.length_append] at this
      have : i < ds.length + 1 := this
      omega
    subst hi2
    rw [List.getElem?_append_right (Nat.le_refl _), Nat.sub_self] at e
    have e2 : dd = Deed.code p t s := Option.some.inj e
    rw [List.take_left]
    exact hd p t s e2
theorem brs_one (ds : List Deed) (d : Deed) : brs (ds ++ [d]) = brs ds + (if isBr d then 1 else 0) := by
  unfold brs
  rw [List.countP_append, List.countP_singleton]
end K29

namespace K29
open PySem PySem.Spec PyProof.Rows L2 My StX
/-! ### runs of few kinds of deeds -/
def RunIs (rb : List RuleL) (d : Int) (ds : List Deed) (n : Int) (S : BoxS) (Us : List ToldS) : Prop := runF rb d ds = (n, S, Us)
theorem RunIs.nil (rb : List RuleL) (d : Int) : RunIs rb d [] 0 S0 [] := rfl
theorem RunIs.snoc {rb : List RuleL} {d n : Int} {ds : List Deed} {S S' : BoxS} {Us : List ToldS} {U : ToldS} (h : RunIs rb d ds n S Us) {x : Deed} {n' : Int} (hn : n' = (if isBr x = true then n + 1 else n)) (e : doF rb d n' x S = (S', U)) : RunIs rb d (ds ++ [x]) n' S' (Us ++ [U]) := by
  unfold RunIs at *
  rw [runF_snoc, h]
  unfold stepF
  show ((if isBr x = true then n + 1 else n), (doF rb d (if isBr x = true then n + 1 else n) x S).1, Us ++ [(doF rb d (if isBr x = true then n + 1 else n) x S).2]) = _
  rw [← hn, e]
theorem RunIs.rep {rb : List RuleL} {d n : Int} {ds : List Deed} {S : BoxS} {Us : List ToldS} {U : ToldS} {x : Deed} (hb : isBr x = false) (e : doF rb d n x S = (S, U)) : ∀ (m : Nat), RunIs rb d ds n S Us → RunIs rb d (ds ++ List.replicate m x) n S (Us ++ List.replicate m U)
  | 0, h => by rw [List.replicate_zero, List.replicate_zero, List.append_nil, List.append_nil]; exact h
  | m + 1, h => by
    rw [List.replicate_succ', List.replicate_succ', ← List.append_assoc, ← List.append_assoc]
    exact (RunIs.rep hb e m h).snoc (by rw [hb]; rfl) e
theorem RunIs.len {rb : List RuleL} {d n : Int} {ds : List Deed} {S : BoxS} {Us : List ToldS} (h : RunIs rb d ds n S Us) : Us.length = ds.length := by
  have := runF_len rb d ds
  rw [h] at this
  exact this
/-- ("w", a), ("w", a + s), .. -/
def eachL (w : Str) (a c s : Nat) : List (Str × Nat) := (List.range c).map fun j => (w, a + s * j)
theorem eachL_snoc (w : Str) (a c s : Nat) : eachL w a (c + 1) s = eachL w a c s ++ [(w, a + s * c)] := by
  unfold eachL
  rw [List.range_succ, List.map_append]
  rfl
theorem fl_none (Us : List ToldS) (U : ToldS) (h : U.wrongs = []) : fl 0 (Us ++ [U]) = fl 0 Us := by
  rw [fl_snoc, h]
  exact List.append_nil _
theorem fl_rep0 (Us : List ToldS) (U : ToldS) (h : U.wrongs = []) : ∀ m : Nat, fl 0 (Us ++ List.replicate m U) = fl 0 Us
  | 0 => by rw [List.replicate_zero, List.append_nil]
  | m + 1 => by
    rw [List.replicate_succ', ← List.append_assoc, fl_none _ _ h]
    exact fl_rep0 Us U h m
theorem fl_rep1 (Us : List ToldS) (U : ToldS) (w : Str) (h : U.wrongs = [w]) : ∀ m : Nat, fl 0 (Us ++ List.replicate m U) = fl 0 Us ++ eachL w Us.length m 1
  | 0 => by
    rw [List.replicate_zero, List.append_nil]
    exact (List.append_nil _).symm
  | m + 1 => by
    rw [List.replicate_succ', ← List.append_assoc, fl_snoc, fl_rep1 Us U w h m, h, eachL_snoc, List.length_append, List.length_replicate, Nat.one_mul, List.append_assoc]
    rfl
theorem fl_all0 : ∀ (n : Nat) (Us : List ToldS), (∀ U ∈ Us, U.wrongs = []) → fl n Us = []
  | _, [], _ => rfl
  | n, U :: r, h => by
    show flW U n ++ fl (n + 1) r = []
    rw [fl_all0 (n + 1) r (fun V hV => h V (List.mem_cons_of_mem _ hV))]
    unfold flW
    rw [h U (List.mem_cons_self ..)]
    rfl
theorem carry0 (m : Str) (x : BoxS × ToldS) : carry [] m x = (x.1, { x.2 with moments := x.2.moments ++ [m] }) := rfl
/-- a bring when the box is given with no rule; r1, r2 are carried out at the end -/
theorem bringG {rb : List RuleL} {r1 r2 : RuleL} (h0 : at_ rb 0 = []) (h1 : at_ rb 1 = r1) (h2 : at_ rb 2 = r2) {p : Int} {l s : Bool} {S : BoxS} (hf : S.tf = "free") :
    bringF rb p l s S = carry (if s = true then r1 else r2) (if s = true then "laid" else "left") ({ S with ajar := !s, age := some 0, last := some p, inside := if l = true then S.inside ++ [p] else S.inside }, ⟨[], true, [], if (l && !S.inside.isEmpty) = true then [("two" : Str)] else [], ["given"]⟩) := by
  obtain ⟨aj, ii, tf, va, ag, la, sn, sv⟩ := S
  simp only at hf
  subst hf
  unfold bringF
  rw [if_pos (show ("free" : Str) = "free" from rfl), h0, h1, h2, carry0]
  have el : layIn p l (({ ajar := true, inside := ii, tf := "free", valid := va, age := some 0, last := some p, sent := sn, served := sv } : BoxS), (⟨[], true, [], [], ["given"]⟩ : ToldS)) = ({ ajar := true, inside := if l = true then ii ++ [p] else ii, tf := "free", valid := va, age := some 0, last := some p, sent := sn, served := sv }, ⟨[], true, [], if (l && !ii.isEmpty) = true then [("two" : Str)] else [], ["given"]⟩) := by
    unfold layIn
    cases l with
    | false => rfl
    | true =>
      rw [if_pos ⟨rfl, rfl⟩]
      show (_, ToldS.mk _ _ _ (if ii.isEmpty = true then [] else [] ++ [("two" : Str)]) _) = (_, ToldS.mk _ _ _ (if (true && !ii.isEmpty) = true then _ else _) _)
      cases ii.isEmpty <;> rfl
  show goAway s "laid" "left" r1 r2 (layIn p l (({ ajar := true, inside := ii, tf := "free", valid := va, age := some 0, last := some p, sent := sn, served := sv } : BoxS), (⟨[], true, [], [], ["given"]⟩ : ToldS))) = _
  rw [el]
  unfold goAway
  rw [if_pos rfl]
  cases s <;> rfl
/-- a code that is valid, of books whose opened, taken and gone are empty; the door is shut -/
theorem codeG {rb : List RuleL} (h3 : at_ rb 3 = []) (h4 : at_ rb 4 = []) (h5 : at_ rb 5 = []) {p : Int} {t : Bool} {S : BoxS} (hv : p ∈ S.valid) :
    codeF rb p t true S = ({ S with ajar := false, inside := if t = true then [] else S.inside, served := if t = true then (if p ∈ S.inside then ins p S.served else S.served) else S.served },
      ⟨[], true, if t = true then S.inside else [], (if (if t = true then S.inside else []).any (fun q => decide (some q ≠ some p)) = true then [("wrong" : Str)] else []) ++ (if missF p S = true then [("empty" : Str)] else []), ["opened", "taken"]⟩) := by
  unfold codeF
  rw [if_pos hv, h3, h4, h5, carry0]
  have eg : ∀ (x : BoxS × ToldS), x.1.ajar = true → goAway true "taken" "gone" [] [] x = ({ x.1 with ajar := false }, { x.2 with moments := x.2.moments ++ [("taken" : Str)] }) := fun x h => by
    unfold goAway
    rw [if_pos h, if_pos rfl, carry0]
  have ew : ∀ (c : Bool) (x : BoxS) (U : ToldS), addW c "empty" (x, U) = (x, { U with wrongs := U.wrongs ++ (if c = true then [("empty" : Str)] else []) }) := fun c x U => by
    unfold addW
    cases c with
    | true => rfl
    | false =>
      rw [if_neg Bool.false_ne_true, if_neg Bool.false_ne_true, List.append_nil]
  obtain ⟨aj, ii, tf, va, ag, la, sn, sv⟩ := S
  cases t with
  | false =>
    have et : ∀ x : BoxS × ToldS, takeIf p false x = x := fun x => by
      unfold takeIf
      rw [if_neg (fun z => Bool.false_ne_true z.1)]
    rw [et, ew, eg _ rfl]
    rfl
  | true =>
    have et : ∀ x : BoxS × ToldS, x.1.ajar = true → takeIf p true x = letTake (some p) x := fun x h => by
      unfold takeIf
      rw [if_pos ⟨rfl, h⟩]
    rw [et _ rfl]
    unfold letTake
    rw [ew, eg _ rfl]
    rfl
theorem codeGn {rb : List RuleL} {p : Int} {t s : Bool} {S : BoxS} (hv : p ∉ S.valid) : codeF rb p t s S = (S, ⟨[], false, [], if (decide (p ∈ S.inside) && decide (p ∈ S.sent)) = true then [("refused" : Str)] else [], []⟩) := by
  unfold codeF
  rw [if_neg hv]
  unfold addW
  cases (decide (p ∈ S.inside) && decide (p ∈ S.sent)) <;> rfl
theorem pass_open {S : BoxS} (h : S.ajar = true) : passBy S = ({ S with inside := [] }, ⟨[], false, S.inside, if S.inside.any (fun p => decide (some p ≠ none)) = true then [("wrong" : Str)] else [], []⟩) := by
  unfold passBy
  rw [if_pos h]
  unfold letTake
  rfl
/-! ### the books that no code opens -/
def trs (bs : List Bool) : List Nat := (List.range bs.length).filter fun k => (bs[k]?).getD false
theorem trs_snoc (bs : List Bool) (b : Bool) : trs (bs ++ [b]) = trs bs ++ (if b = true then [bs.length] else []) := by
  unfold trs
  rw [List.length_append]
  show ((List.range (bs.length + 1)).filter _) = _
  rw [List.range_succ, List.filter_append]
  congr 1
  · refine List.filter_congr fun k hk => ?_
    rw [List.getElem?_append_left (List.mem_range.mp hk)]
  · have : ((bs ++ [b])[bs.length]?).getD false = b := by
      rw [List.getElem?_append_right (Nat.le_refl _), Nat.sub_self]
      rfl
    rw [List.filter_cons, this]
    cases b <;> rfl
abbrev e8 : List RuleL := [[], [], [], [], [], [], [], []]
theorem laid0 (d : Int) : ∀ bs : List Bool, ∃ S Us, RunIs e8 d (bs.map fun b => Deed.bring b true) bs.length S Us ∧ S.tf = "free" ∧ S.inside.length = (trs bs).length ∧ fl 0 Us = (trs bs).tail.map fun k => (("two" : Str), k) := by
  intro bs
  induction h : bs.length generalizing bs with
  | zero =>
    have : bs = [] := List.eq_nil_of_length_eq_zero h
    subst this
    exact ⟨S0, [], RunIs.nil _ _, rfl, rfl, rfl⟩
  | succ m ih =>
    obtain ⟨cs, b, rfl⟩ : ∃ cs b, bs = cs ++ [b] := ⟨bs.dropLast, bs.getLast (by intro z; rw [z] at h; cases h), (List.dropLast_concat_getLast _).symm⟩
    have hc : cs.length = m := by
      rw [List.length_append] at h
      exact Nat.succ.inj h
    obtain ⟨S, Us, hr, ht, hi, hf⟩ := ih cs hc
    have el : Us.length = cs.length := by rw [hr.len, List.length_map]
    have eb := bringG (rb := e8) rfl rfl rfl (p := ((m + 1 : Nat) : Int)) (l := b) (s := true) ht
    rw [List.map_append]
    refine ⟨_, _, hr.snoc (x := .bring b true) (n' := ((m + 1 : Nat) : Int)) (by rw [if_pos (show isBr (Deed.bring b true) = true from rfl)]; rfl) eb, ht, ?_, ?_⟩
    · show (if b = true then S.inside ++ [((m + 1 : Nat) : Int)] else S.inside).length = _
      rw [trs_snoc]
      cases b with
      | true => rw [if_pos rfl, if_pos rfl, List.length_append, List.length_append, hi]; rfl
      | false => rw [if_neg Bool.false_ne_true, if_neg Bool.false_ne_true, List.append_nil]; exact hi
    · rw [fl_snoc, hf, trs_snoc, el]
      show _ ++ (if (b && !S.inside.isEmpty) = true then [("two" : Str)] else []).map _ = _
      cases b with
      | false =>
        rw [Bool.false_and, if_neg Bool.false_ne_true, if_neg Bool.false_ne_true, List.append_nil]
        exact List.append_nil _
      | true =>
        rw [Bool.true_and, if_pos rfl]
        cases ht2 : trs cs with
        | nil =>
          have : S.inside = [] := List.eq_nil_of_length_eq_zero (by rw [hi, ht2]; rfl)
          rw [this]
          rfl
        | cons y l =>
          have : S.inside.isEmpty = false := by
            cases hS : S.inside with
            | nil => rw [hS, ht2] at hi; cases hi
            | cons a b => rfl
          rw [this]
          show l.map _ ++ [(("two" : Str), cs.length)] = (l ++ [cs.length]).map _
          rw [List.map_append]
          rfl
def blk1 : List Deed := [.bring true false, .pass, .pass]
theorem laid1 (d : Int) : ∀ m : Nat, ∃ S Us, RunIs e8 d ((List.replicate m blk1).flatten) m S Us ∧ S.tf = "free" ∧ S.inside = [] ∧ fl 0 Us = eachL "wrong" 1 m 3 := by
  intro m
  induction m with
  | zero => exact ⟨S0, [], RunIs.nil _ _, rfl, rfl, rfl⟩
  | succ m ih =>
    obtain ⟨S, Us, hr, ht, hi, hf⟩ := ih
    have el : Us.length = 3 * m := by
      rw [hr.len, List.length_flatten, List.map_replicate]
      show (List.replicate m 3).sum = _
      rw [List.sum_replicate_nat]
      omega
    have e : (List.replicate (m + 1) blk1).flatten = (((List.replicate m blk1).flatten ++ [.bring true false]) ++ [.pass]) ++ [.pass] := by
      rw [List.replicate_succ', List.flatten_append]
      simp [blk1]
    rw [e]
    have eb := bringG (rb := e8) rfl rfl rfl (p := ((m + 1 : Nat) : Int)) (l := true) (s := false) ht
    have h1 := hr.snoc (x := .bring true false) (n' := ((m + 1 : Nat) : Int)) (by rw [if_pos (show isBr (Deed.bring true false) = true from rfl)]; rfl) eb
    rw [hi] at h1
    have h2 := h1.snoc (x := .pass) (n' := ((m + 1 : Nat) : Int)) rfl (pass_open rfl)
    have h3 := h2.snoc (x := .pass) (n' := ((m + 1 : Nat) : Int)) rfl (pass_open rfl)
    refine ⟨_, _, h3, ht, rfl, ?_⟩
    rw [fl_none _ _ rfl, fl_snoc, fl_none _ _ rfl, hf, eachL_snoc, List.length_append, el]
    show _ ++ [(("wrong" : Str), 3 * m + 1)] = _
    rw [Nat.add_comm]
theorem none_wrong {rb : List RuleL} {d : Int} {P : BoxS → Prop} (h0 : P S0) (x : Deed) (hs : ∀ (n : Int) (S : BoxS), P S → P (doF rb d n x S).1 ∧ (doF rb d n x S).2.wrongs = []) : ∀ m : Nat, fl 0 (runF rb d (List.replicate m x)).2.2 = [] := by
  intro m
  have h : P (runF rb d (List.replicate m x)).2.1 ∧ ∀ U ∈ (runF rb d (List.replicate m x)).2.2, U.wrongs = [] := by
    induction m with
    | zero => exact ⟨h0, fun U h => by cases h⟩
    | succ m ih =>
      rw [List.replicate_succ', runF_snoc]
      obtain ⟨i1, i2⟩ := ih
      obtain ⟨j1, j2⟩ := hs (if isBr x = true then (runF rb d (List.replicate m x)).1 + 1 else (runF rb d (List.replicate m x)).1) _ i1
      refine ⟨j1, fun U hU => ?_⟩
      rcases List.mem_append.mp (show U ∈ (runF rb d (List.replicate m x)).2.2 ++ [_] from hU) with h | h
      · exact i2 U h
      · rw [List.mem_singleton.mp h]; exact j2
  exact fl_all0 0 _ h.2
abbrev eLk : List RuleL := [[("lock" : Str)], [], [], [], [], [], [], []]
abbrev eFu : List RuleL := [[("full" : Str)], [], [], [], [], [], [], []]
theorem laid2 (d : Int) (m : Nat) : fl 0 (runF eLk d (List.replicate m (.bring true true))).2.2 = [] := by
  refine none_wrong (P := fun S => S.tf = "free") rfl _ (fun n S hS => ?_) m
  obtain ⟨aj, ii, tf, va, ag, la, sn, sv⟩ := S
  simp only at hS
  subst hS
  exact ⟨rfl, rfl⟩
theorem laid3 (d : Int) (m : Nat) : fl 0 (runF eFu d (List.replicate m (.bring true true))).2.2 = [] := by
  refine none_wrong (P := fun S => (S.tf = "free" ∧ S.inside = []) ∨ S.tf = "full") (.inl ⟨rfl, rfl⟩) _ (fun n S hS => ?_) m
  obtain ⟨aj, ii, tf, va, ag, la, sn, sv⟩ := S
  rcases hS with ⟨h1, h2⟩ | h1
  · simp only at h1 h2
    subst h1 h2
    exact ⟨.inr rfl, rfl⟩
  · simp only at h1
    subst h1
    exact ⟨.inr rfl, rfl⟩
end K29

namespace K29
open PySem PySem.Spec PyProof.Rows L2 My StX
/-! ### the books by which a code opens -/
def thr : RuleL := ["full", "code", "free"]
abbrev eO : List RuleL := [[], thr, [], [], [], [], [], []]
abbrev eO3 : List RuleL := [[], thr, [], [("lock" : Str)], [], [], [], []]
theorem carryT {p : Int} {m : Str} {S : BoxS} {U : ToldS} (hl : S.last = some p) : carry thr m (S, U) = ({ S with tf := "free", valid := ins p S.valid, sent := ins p S.sent }, { U with letters := U.letters ++ [p], moments := U.moments ++ [m] }) := by
  obtain ⟨aj, ii, tf, va, ag, la, sn, sv⟩ := S
  simp only at hl
  subst hl
  rfl
/-- a bring that shuts the door, at such a book -/
theorem bringO {rb : List RuleL} (h0 : at_ rb 0 = []) (h1 : at_ rb 1 = thr) {p : Int} {l : Bool} {S : BoxS} (hf : S.tf = "free") :
    ∃ ms, bringF rb p l true S = ({ S with ajar := false, age := some 0, last := some p, tf := "free", inside := if l = true then S.inside ++ [p] else S.inside, valid := ins p S.valid, sent := ins p S.sent }, ⟨[p], true, [], if (l && !S.inside.isEmpty) = true then [("two" : Str)] else [], ms⟩) := by
  rw [bringG (r2 := at_ rb 2) h0 h1 rfl hf, if_pos rfl, carryT rfl]
  exact ⟨_, rfl⟩
def upN (m : Nat) : List Int := (List.range m).map fun i => (1 : Int) + (i : Nat)
theorem upN_snoc (m : Nat) : upN (m + 1) = upN m ++ [((m + 1 : Nat) : Int)] := by
  unfold upN
  rw [List.range_succ, List.map_append]
  show _ ++ [(1 : Int) + (m : Nat)] = _
  rw [show (1 : Int) + (m : Nat) = ((m + 1 : Nat) : Int) by omega]
theorem mem_upN {m : Nat} {p : Int} : p ∈ upN m ↔ 1 ≤ p ∧ p ≤ (m : Int) := by
  unfold upN
  rw [List.mem_map]
  constructor
  · rintro ⟨i, hi, rfl⟩
    have := List.mem_range.mp hi
    omega
  · rintro ⟨h1, h2⟩
    exact ⟨(p - 1).toNat, List.mem_range.mpr (by omega), by omega⟩
theorem ins_upN (m : Nat) : ins ((m + 1 : Nat) : Int) (upN m) = upN (m + 1) := by
  unfold ins
  rw [if_neg (fun z => by have := (mem_upN.mp z).2; omega), upN_snoc]
/-- many brings, all laid, all sent -/
theorem brings0 (d : Int) : ∀ m : Nat, ∃ S Us, RunIs eO d (List.replicate m (.bring true true)) m S Us ∧ S.tf = "free" ∧ S.inside = upN m ∧ S.valid = upN m ∧ S.served = [] ∧ fl 0 Us = eachL "two" 1 (m - 1) 1 := by
  intro m
  induction m with
  | zero => exact ⟨S0, [], RunIs.nil _ _, rfl, rfl, rfl, rfl, rfl⟩
  | succ m ih =>
    obtain ⟨S, Us, hr, ht, hi, hv, hs, hf⟩ := ih
    have el : Us.length = m := by rw [hr.len, List.length_replicate]
    obtain ⟨ms, eb⟩ := bringO (rb := eO) rfl rfl (p := ((m + 1 : Nat) : Int)) (l := true) ht
    rw [List.replicate_succ']
    refine ⟨_, _, hr.snoc (x := .bring true true) (n' := ((m + 1 : Nat) : Int)) (by rw [if_pos (show isBr (Deed.bring true true) = true from rfl)]; rfl) eb, rfl, ?_, ?_, hs, ?_⟩
    · show S.inside ++ [((m + 1 : Nat) : Int)] = _
      rw [hi, upN_snoc]
    · show ins ((m + 1 : Nat) : Int) S.valid = _
      rw [hv, ins_upN]
    · rw [fl_snoc, hf, el, hi]
      cases m with
      | zero => rfl
      | succ k =>
        have : (upN (k + 1)).isEmpty = false := by
          rw [upN_snoc]
          cases upN k <;> rfl
        rw [this]
        show eachL "two" 1 k 1 ++ [(("two" : Str), k + 1)] = eachL "two" 1 (k + 1) 1
        rw [eachL_snoc, show 1 + 1 * k = k + 1 by omega]
theorem open0 (d : Int) (m : Nat) (hm : 1 ≤ m) (o t : Int) (ho : 1 ≤ o ∧ o ≤ ((1 + m : Nat) : Int)) (ht : 1 ≤ t ∧ t ≤ ((1 + m : Nat) : Int)) (hne : t ≠ o) :
    fl 0 (runF eO d ((List.replicate (1 + m) (.bring true true) ++ [.code o true true, .code t true true]) ++ [.code o true true])).2.2 = eachL "two" 1 m 1 ++ [(("wrong" : Str), m + 1), (("empty" : Str), m + 2)] := by
  obtain ⟨S, Us, hr, htf, hi, hv, hs, hf⟩ := brings0 d (1 + m)
  have el : Us.length = 1 + m := by rw [hr.len, List.length_replicate]
  have mo : o ∈ upN (1 + m) := mem_upN.mpr ho
  have mt : t ∈ upN (1 + m) := mem_upN.mpr ht
  obtain ⟨aj, ii, tf, va, ag, la, sn, sv⟩ := S
  simp only at htf hi hv hs
  subst htf hi hv hs
  have w1 : (upN (1 + m)).any (fun q => decide (some q ≠ some o)) = true := List.any_eq_true.mpr ⟨t, mt, decide_eq_true (fun z => hne (Option.some.inj z))⟩
  have so : (if o ∈ upN (1 + m) then ins o [] else []) = [o] := by rw [if_pos mo]; rfl
  have mi1 : missF o ⟨aj, upN (1 + m), "free", upN (1 + m), ag, la, sn, []⟩ = false := by
    show (decide (o ∉ upN (1 + m)) && decide (o ∉ ([] : List Int))) = false
    rw [decide_eq_false (show ¬ o ∉ upN (1 + m) from fun z => z mo)]
    rfl
  have mi2 : missF t ⟨false, [], "free", upN (1 + m), ag, la, sn, [o]⟩ = true := by
    show (decide (t ∉ ([] : List Int)) && decide (t ∉ [o])) = true
    rw [decide_eq_true (show t ∉ ([] : List Int) from List.not_mem_nil), decide_eq_true (show t ∉ [o] from fun z => hne (List.mem_singleton.mp z))]
    rfl
  have mi3 : missF o ⟨false, [], "free", upN (1 + m), ag, la, sn, [o]⟩ = false := by
    show (decide (o ∉ ([] : List Int)) && decide (o ∉ [o])) = false
    rw [decide_eq_false (show ¬ o ∉ [o] from fun z => z (List.mem_singleton.mpr rfl)), Bool.and_false]
  have e1 : codeF eO o true true ⟨aj, upN (1 + m), "free", upN (1 + m), ag, la, sn, []⟩ = (⟨false, [], "free", upN (1 + m), ag, la, sn, [o]⟩, ⟨[], true, upN (1 + m), [("wrong" : Str)], ["opened", "taken"]⟩) := by
    rw [codeG (rb := eO) rfl rfl rfl mo]
    show (BoxS.mk false [] "free" (upN (1 + m)) ag la sn (if o ∈ upN (1 + m) then ins o [] else []), ToldS.mk [] true (upN (1 + m)) ((if (upN (1 + m)).any (fun q => decide (some q ≠ some o)) = true then [("wrong" : Str)] else []) ++ (if missF o ⟨aj, upN (1 + m), "free", upN (1 + m), ag, la, sn, []⟩ = true then [("empty" : Str)] else [])) ["opened", "taken"]) = _
    rw [so, w1, mi1]
    rfl
  have e2 : codeF eO t true true ⟨false, [], "free", upN (1 + m), ag, la, sn, [o]⟩ = (⟨false, [], "free", upN (1 + m), ag, la, sn, [o]⟩, ⟨[], true, [], [("empty" : Str)], ["opened", "taken"]⟩) := by
    rw [codeG (rb := eO) rfl rfl rfl mt]
    show (BoxS.mk false [] "free" (upN (1 + m)) ag la sn (if t ∈ ([] : List Int) then ins t [o] else [o]), ToldS.mk [] true [] ([] ++ (if missF t ⟨false, [], "free", upN (1 + m), ag, la, sn, [o]⟩ = true then [("empty" : Str)] else [])) ["opened", "taken"]) = _
    rw [mi2, if_neg (show ¬ t ∈ ([] : List Int) from List.not_mem_nil)]
    rfl
  have e3 : codeF eO o true true ⟨false, [], "free", upN (1 + m), ag, la, sn, [o]⟩ = (⟨false, [], "free", upN (1 + m), ag, la, sn, [o]⟩, ⟨[], true, [], [], ["opened", "taken"]⟩) := by
    rw [codeG (rb := eO) rfl rfl rfl mo]
    show (BoxS.mk false [] "free" (upN (1 + m)) ag la sn (if o ∈ ([] : List Int) then ins o [o] else [o]), ToldS.mk [] true [] ([] ++ (if missF o ⟨false, [], "free", upN (1 + m), ag, la, sn, [o]⟩ = true then [("empty" : Str)] else [])) ["opened", "taken"]) = _
    rw [mi3, if_neg (show ¬ o ∈ ([] : List Int) from List.not_mem_nil)]
    rfl
  have r3 := ((hr.snoc (x := .code o true true) rfl e1).snoc (x := .code t true true) rfl e2).snoc (x := .code o true true) rfl e3
  have e : (List.replicate (1 + m) (Deed.bring true true) ++ [.code o true true, .code t true true]) ++ [.code o true true] = ((List.replicate (1 + m) (Deed.bring true true) ++ [.code o true true]) ++ [.code t true true]) ++ [.code o true true] := by simp
  rw [e]
  unfold RunIs at r3
  rw [r3]
  show fl 0 (((Us ++ [_]) ++ [_]) ++ [_]) = _
  rw [fl_none _ _ rfl, fl_snoc, fl_snoc, hf, List.length_append, el, show 1 + m - 1 = m by omega]
  show (eachL "two" 1 m 1 ++ [(("wrong" : Str), 1 + m)]) ++ [(("empty" : Str), 1 + m + 1)] = _
  rw [List.append_assoc, show 1 + m + 1 = m + 2 by omega, show 1 + m = m + 1 by omega]
  rfl
/-- fixed points -/
theorem fix_fl {rb : List RuleL} {d : Int} {A : List Deed} {n : Int} {S : BoxS} {Us : List ToldS} {U : ToldS} {x : Deed} {w : Str} (h : RunIs rb d A n S Us) (hb : isBr x = false) (e : doF rb d n x S = (S, U)) (hw : U.wrongs = [w]) (m : Nat) : fl 0 (runF rb d (A ++ List.replicate m x)).2.2 = fl 0 Us ++ eachL w A.length m 1 := by
  have r := RunIs.rep hb e m h
  unfold RunIs at r
  rw [r]
  show fl 0 (Us ++ List.replicate m U) = _
  rw [fl_rep1 _ _ _ hw, h.len]
theorem fix_fl0 {rb : List RuleL} {d : Int} {A : List Deed} {n : Int} {S : BoxS} {Us : List ToldS} {U : ToldS} {x : Deed} (h : RunIs rb d A n S Us) (hb : isBr x = false) (e : doF rb d n x S = (S, U)) (hw : U.wrongs = []) (m : Nat) : fl 0 (runF rb d (A ++ List.replicate m x)).2.2 = fl 0 Us := by
  have r := RunIs.rep hb e m h
  unfold RunIs at r
  rw [r]
  exact fl_rep0 _ _ hw m
theorem br1 (x : Deed) (h : isBr x = true) : (1 : Int) = (if isBr x = true then 0 + 1 else 0) := by rw [if_pos h]; rfl
theorem open1 (d : Int) (m : Nat) : fl 0 (runF eO d (([.bring true true] ++ List.replicate m (.code 1 false true)) ++ List.replicate (1 + m) (.code 1 true true))).2.2 = [] := by
  have r1 : RunIs eO d [.bring true true] 1 ⟨false, [1], "free", [1], some 0, some 1, [1], []⟩ [⟨[1], true, [], [], ["given", "laid"]⟩] := rfl
  have r2 := RunIs.rep (x := .code 1 false true) (U := ⟨[], true, [], [], ["opened", "taken"]⟩) rfl rfl m r1
  have e : List.replicate (1 + m) (Deed.code 1 true true) = [.code 1 true true] ++ List.replicate m (.code 1 true true) := by rw [Nat.add_comm, List.replicate_succ]; rfl
  rw [e, ← List.append_assoc]
  have r3 := r2.snoc (x := .code 1 true true) (n' := 1) (S' := ⟨false, [], "free", [1], some 0, some 1, [1], [1]⟩) (U := ⟨[], true, [1], [], ["opened", "taken"]⟩) rfl rfl
  rw [fix_fl0 r3 rfl (U := ⟨[], true, [], [], ["opened", "taken"]⟩) rfl rfl, fl_none _ _ rfl, fl_rep0 _ _ rfl]
  rfl
theorem open2 (d : Int) (m : Nat) : fl 0 (runF eO d ([.bring false true] ++ List.replicate m (.code 1 true true))).2.2 = eachL "empty" 1 m 1 := by
  have r1 : RunIs eO d [.bring false true] 1 ⟨false, [], "free", [1], some 0, some 1, [1], []⟩ [⟨[1], true, [], [], ["given", "laid"]⟩] := rfl
  rw [fix_fl r1 rfl (U := ⟨[], true, [], [("empty" : Str)], ["opened", "taken"]⟩) rfl rfl]
  rfl
theorem open3 (d : Int) (m : Nat) : fl 0 (runF eO3 d ([.bring true true] ++ List.replicate m (.code 1 true true))).2.2 = [] := by
  have r1 : RunIs eO3 d [.bring true true] 1 ⟨false, [1], "free", [1], some 0, some 1, [1], []⟩ [⟨[1], true, [], [], ["given", "laid"]⟩] := rfl
  rw [fix_fl0 r1 rfl (U := ⟨[], true, [], [], ["opened"]⟩) rfl rfl]
  rfl
theorem open4 (d : Int) (m : Nat) : fl 0 (runF eO d ([.bring false true, .bring true true] ++ List.replicate (1 + m) (.code 1 true true))).2.2 = [(("wrong" : Str), 2)] ++ eachL "empty" 2 (m + 1) 1 := by
  have r1 : RunIs eO d [.bring false true, .bring true true] 2 ⟨false, [2], "free", [1, 2], some 0, some 2, [1, 2], []⟩ [⟨[1], true, [], [], ["given", "laid"]⟩, ⟨[2], true, [], [], ["given", "laid"]⟩] := rfl
  have e : List.replicate (1 + m) (Deed.code 1 true true) = [.code 1 true true] ++ List.replicate m (.code 1 true true) := by rw [Nat.add_comm, List.replicate_succ]; rfl
  rw [e, ← List.append_assoc]
  have r3 := r1.snoc (x := .code 1 true true) (n' := 2) (S' := ⟨false, [], "free", [1, 2], some 0, some 2, [1, 2], []⟩) (U := ⟨[], true, [2], [("wrong" : Str), "empty"], ["opened", "taken"]⟩) rfl rfl
  rw [fix_fl r3 rfl (U := ⟨[], true, [], [("empty" : Str)], ["opened", "taken"]⟩) rfl rfl, fl_snoc]
  show ([] ++ [(("wrong" : Str), 2), (("empty" : Str), 2)]) ++ eachL "empty" 3 m 1 = _
  have e2 : eachL "empty" 2 (m + 1) 1 = [(("empty" : Str), 2)] ++ eachL "empty" 3 m 1 := by
    unfold eachL
    rw [List.range_succ_eq_map, List.map_cons, List.map_map]
    show _ :: _ = _ :: _
    congr 1
    refine List.map_congr_left fun j _ => ?_
    show (_, 2 + 1 * (j + 1)) = (_, 3 + 1 * j)
    rw [show 2 + 1 * (j + 1) = 3 + 1 * j by omega]
  rw [e2]
  rfl
/-! ### the books by which a code does not open -/
abbrev eR (c : Bool) : List RuleL := [[], if c = true then ["full", "code", "void"] else ["full"], [], [], [], [], [], []]
abbrev eR1 : List RuleL := [[], [], ["full", "code", "void"], [], [], [], [], []]
abbrev eR2 : List RuleL := [["full"], [], [], [], [], [], [], ["code", "void"]]
theorem ref0 (d : Int) (m : Nat) (t : Bool) : ∀ c : Bool, fl 0 (runF (eR c) d ([.bring true true] ++ List.replicate m (.code 1 t true))).2.2 = eachL "refused" 1 (if c = true then m else 0) 1
  | true => by
    have r1 : RunIs (eR true) d [.bring true true] 1 ⟨false, [1], "full", [], some 0, some 1, [1], []⟩ [⟨[1], true, [], [], ["given", "laid"]⟩] := rfl
    rw [fix_fl r1 rfl (U := ⟨[], false, [], [("refused" : Str)], []⟩) rfl rfl]
    rfl
  | false => by
    have r1 : RunIs (eR false) d [.bring true true] 1 ⟨false, [1], "full", [], some 0, some 1, [], []⟩ [⟨[], true, [], [], ["given", "laid"]⟩] := rfl
    rw [fix_fl0 r1 rfl (U := ⟨[], false, [], [], []⟩) rfl rfl]
    rfl
theorem ref1 (d : Int) (m : Nat) (t : Bool) : fl 0 (runF eR1 d ([.bring true false, .pass] ++ List.replicate m (.code 1 t true))).2.2 = [(("wrong" : Str), 1)] := by
  have r1 : RunIs eR1 d [.bring true false, .pass] 1 ⟨true, [], "full", [], some 0, some 1, [1], []⟩ [⟨[1], true, [], [], ["given", "left"]⟩, ⟨[], false, [1], ["wrong"], []⟩] := rfl
  rw [fix_fl0 r1 rfl (U := ⟨[], false, [], [], []⟩) rfl rfl]
  rfl
theorem ref2 (d : Int) (m : Nat) (t : Bool) : fl 0 (runF eR2 d ((([.bring true true] ++ List.replicate m (.code 1 t true)) ++ [.power]) ++ List.replicate m (.code 1 t true))).2.2 = eachL "refused" (m + 2) m 1 := by
  have r1 : RunIs eR2 d [.bring true true] 1 ⟨false, [1], "full", [], some 0, some 1, [], []⟩ [⟨[], true, [], [], ["given", "laid"]⟩] := rfl
  have r2 := RunIs.rep (x := .code 1 t true) (U := ⟨[], false, [], [], []⟩) rfl rfl m r1
  have r3 := r2.snoc (x := .power) (n' := 1) (S' := ⟨false, [1], "full", [], some 0, some 1, [1], []⟩) (U := ⟨[1], false, [], [], ["power"]⟩) rfl rfl
  rw [fix_fl r3 rfl (U := ⟨[], false, [], [("refused" : Str)], []⟩) rfl rfl, fl_none _ _ rfl, fl_rep0 _ _ rfl, List.length_append, List.length_append, List.length_replicate]
  show [] ++ eachL "refused" (1 + m + 1) m 1 = _
  rw [show 1 + m + 1 = m + 2 by omega]
  rfl
end K29

namespace K29
open PySem PySem.Spec PyProof.Rows L2 My StX
theorem rg1 {a b : Nat} (hb : b ≤ 10000) (ha : a ≤ 10000) : RgC (a : Int) (b : Int) 1 (b - a) := by
  refine ⟨by decide, by decide, small_one (by omega) (by omega) (by omega) (by omega), ?_⟩
  rw [rangeSize_nat]
  omega
theorem rg3 {m : Nat} (hm : 1 ≤ m) (h : m ≤ 1000) : RgC 1 ((3 * m : Nat) : Int) 3 m := by
  refine ⟨by decide, by decide, ?_, ?_⟩
  · have e : Builtin.Range.rangeSize 1 ((3 * m : Nat) : Int) 3 = (m : Int) := by
      unfold Builtin.Range.rangeSize
      rw [if_pos (by decide), if_pos (by omega)]
      omega
    have f : ∀ z : Int, -(2 ^ 62) ≤ z → z < 2 ^ 62 → Builtin.Range.rangeFitsLong z = true := by
      intro z h1 h2
      unfold Builtin.Range.rangeFitsLong
      rw [decide_eq_true (show -(2 ^ 63) ≤ z by omega), decide_eq_true (show z < 2 ^ 63 by omega)]
      rfl
    unfold Builtin.Range.small
    rw [e, f 1 (by decide) (by decide), f ((3 * m : Nat) : Int) (by omega) (by omega), f 3 (by decide) (by decide), f (m : Int) (by omega) (by omega), if_pos (show (3 : Int) > 0 by decide), f (((3 * m : Nat) : Int) + (3 - 1)) (by omega) (by omega), Bool.or_true]
    rfl
  · unfold Builtin.Range.rangeSize
    rw [if_pos (by decide), if_pos (by omega)]
    omega
section
variable {P : Program} {w : World} {K : PySem.W.Frag} {mg : Str → Option Value} {base : Heap}
def sp_law_each (K : PySem.W.Frag) : Sp := fun vs H Q _ => ∃ (wd : Str) (a c s : Nat) (b : Int), vs = [.str wd, .int (a : Int), .int b, .int (s : Int)] ∧ RgC (a : Int) b (s : Int) c ∧ c ≤ 1000 ∧ ∀ (H' : Hp) (p : Addr) (ws : List Addr), Same H H' → H p = none → H' p = some (.lst (ws.map V.ref)) → Paired (FItAt H') ws (eachL wd a c s) → Q (.ref p) H'
set_option maxHeartbeats 2000000 in
theorem ok_law_each (T : Txt K mg) {fd : FuncData} (F : FunD K d_law_each.name d_law_each.qual d_law_each.params d_law_each.body d_law_each.scope (d_law_each.dvs K) (d_law_each.kws K) (He.fAd K d_law_each.at_) fd) : FnOk P w K mg base C8.CX0 1 (He.fAd K d_law_each.at_) fd ["word", "first", "behind", "step"] (sp_law_each K) := by
  refine F.ok sc_law_each (fun vs H Q E h => ?_) (fun cdv A outer s H vs Q E hr h => ?_)
  · obtain ⟨wd, a, c, s, b, rfl, _⟩ := h
    rfl
  · have hu := L2.hu_of hr
    obtain ⟨wd, a, c, s1, b, rfl, rg, hc, q⟩ := h
    refine ⟨_, (PSs.nox ((pss_one (ps_ret (pe_lc (own := [("k", 4)]) (g := (gName 4)) (tt := tYes) (by rfl) sc_law_each.nd (pi_range3 (by rfl) T.range (pa_cons (pv 1) (pa_cons (pv 2) (pa_cons (pv 3) pa_nil)))) (blkOk_by (N := N_law_each) (sc := defScope s_law_each) (by decide +kernel)) (fun _ _ _ _ _ => (pg_name (i := 4) sc_law_each.nd rfl (by first | exact Or.inl rfl | exact Or.inr rfl))) (fun _ _ _ _ _ => pts_nil) (fun _ _ _ _ _ => (pe_tup (pa_cons (pv 0) (pa_cons (pv 4) pa_nil))))))))), ?_⟩
    refine ⟨_, rfl, _, rfl, _, rfl, _, _, _, _, rfl, rg, fun D hD => ?_⟩
    refine lc_it walk_rangeC (fun i H' => Same H H' ∧ ∃ ws : List Addr, H' D = some (.lst (ws.map V.ref)) ∧ Paired (FItAt H') ws (eachL wd a i s1)) ⟨same_new hD, [], upd_same, .nil⟩ (fun _ _ _ _ => trivial) ?_ ?_
    · rintro i y H3 H1 hi ⟨s', ws, hD1, hw⟩ hY
      obtain ⟨rfl, rfl⟩ := hY
      refine ⟨rfl, ?_⟩
      refine ⟨_, rfl, _, rfl, by show 2 ≤ sizeLine; decide, fun t ht => ?_⟩
      have x1 := same_new (o := .tup [.str wd, .int ((a : Int) + (i : Nat) * (s1 : Int))]) ht
      have ntD : t ≠ D := (ne_of_none hD1 ht).symm
      have hwl : ws.length = i := by
        rw [hw.length]
        unfold eachL
        rw [List.length_map, List.length_range]
      refine ⟨_, x1 _ _ hD1, by rw [List.length_map]; exact lt_line (by omega), same_upd (s'.trans x1) hD, ws ++ [t], by rw [upd_same, List.map_append]; rfl, ?_⟩
      rw [eachL_snoc]
      have old : ∀ (c : Addr) (x : Str × Nat), FItAt H1 c x → FItAt (upd (upd H1 t (.tup [.str wd, .int ((a : Int) + (i : Nat) * (s1 : Int))])) D (.lst (ws.map V.ref ++ [.ref t]))) c x := fun c x hc => (upd_ne (ne_of hc hD1 (fun e => by cases e))).trans (x1 _ _ hc)
      refine Paired.snoc (paired_map (fun c x _ hc => old c x hc) hw) ?_
      show upd (upd H1 t _) D _ t = some (.tup [.str wd, .int ((a + s1 * i : Nat) : Int)])
      rw [upd_ne ntD, upd_same, Int.natCast_add, Int.natCast_mul, Int.mul_comm (s1 : Int)]
    · rintro H1 ⟨s', ws, hD1, hw⟩
      exact q H1 D ws s' hD hD1 hw
theorem c_law_each (T : Txt K mg) : C8.Cal P w K mg base 1 "_law_each" (sp_law_each K) [] := by
  obtain ⟨fd, F⟩ := T.f_law_each
  obtain ⟨ds, rd, bd⟩ := F.binds1 (ps := ["word", "first", "behind", "step"]) 4 1 (by intro z; cases z) rfl (fun T kV doc pm an cdv ct us its hl hi => match us, its, hl, hi with | [_, _, _, _], [_], _, _ => ⟨_, rfl, rfl⟩)
  exact ⟨_, fd, _, _, ok_law_each T F, T.g_law_each, F.kp, bd, rd⟩
theorem c3_law_each (T : Txt K mg) : C8.Cal P w K mg base 1 "_law_each" (sp_law_each K) [.int 1] := by
  obtain ⟨fd, F⟩ := T.f_law_each
  obtain ⟨ds, rd, bd⟩ := F.binds1 (ps := ["word", "first", "behind", "step"]) 3 0 (by intro z; cases z) rfl (fun T kV doc pm an cdv ct us its hl hi => match us, its, hl, hi with | [_, _, _], [_], _, _ => ⟨_, rfl, rfl⟩)
  exact ⟨_, fd, _, _, ok_law_each T F, T.g_law_each, F.kp, bd, rd⟩
end
end K29

namespace K29
open PySem PySem.Spec PyProof.Rows L2 My StX
/-- what is no list stands -/
def KT (H H' : Hp) : Prop := ∀ b o, (∀ l, o ≠ HO.lst l) → H b = some o → H' b = some o
theorem KT.refl (H : Hp) : KT H H := fun _ _ _ h => h
theorem KT.trans {H H1 H2 : Hp} (a : KT H H1) (b : KT H1 H2) : KT H H2 := fun c o n h => b c o n (a c o n h)
theorem KT.of {H H' : Hp} (s : Same H H') : KT H H' := fun c o _ h => s c o h
theorem KT.set {H : Hp} {a : Addr} {l : List V} {o : HO} (h : H a = some (.lst l)) : KT H (upd H a o) := fun b u n e => by
  rw [upd_ne (ne_of e h (n l))]
  exact e
theorem KT.draw {H H' : Hp} {a : Addr} {n : Nat} (b : But [a] H H') (s : SpringAt H a n) : KT H H' := fun c o no h => by
  obtain ⟨w0, w1, w2, h1, _⟩ := s
  exact b _ _ (by simpa using ne_of h h1 (no _)) h
theorem KT.tup {K : PySem.W.Frag} {H H' : Hp} {b : Addr} {xs : List V} (k : KT H H') (t : SqT K H b xs) : SqT K H' b xs := by
  rcases t with (t | ⟨o, t⟩) | t
  · exact .inl (.inl (k _ _ (fun l z => by cases z) t))
  · exact .inl (.inr ⟨o, k _ _ (fun l z => by cases z) t⟩)
  · exact .inr t
theorem KT.rules {K : PySem.W.Frag} {H H' : Hp} {qs : List Addr} {rb : List RuleL} (k : KT H H') (h : Paired (RuleAt K H) qs rb) : Paired (RuleAt K H') qs rb := paired_map (fun _ _ _ x => k.tup x) h
theorem KT.deed {K : PySem.W.Frag} {H H' : Hp} {v : V} {d : Deed} (k : KT H H') (h : DeedAt K H v d) : DeedAt K H' v d := by
  obtain ⟨a, e, h2⟩ := h
  exact ⟨a, e, k.tup h2⟩
theorem KT.deeds {K : PySem.W.Frag} {H H' : Hp} {xs : List V} {ds : List Deed} (k : KT H H') (h : DeedsAt K H xs ds) : DeedsAt K H' xs ds := paired_map (fun _ _ _ x => k.deed x) h
theorem KT.fits {H H' : Hp} {us : List Addr} {l : List (Str × Nat)} (k : KT H H') (h : Paired (FItAt H) us l) : Paired (FItAt H') us l := paired_map (fun _ _ _ x => k _ _ (fun _ z => by cases z) x) h
theorem but_putF {as : List Addr} {H H1 H2 : Hp} {a : Addr} {o : HO} (s : But as H H2) (b : But as H H1) (h : H1 a = none) : But as H (upd H2 a o) := by
  by_cases m : a ∈ as
  · exact s.put (.inr m)
  · exact s.put (.inl (b.none m h))
structure W29 (a R : Addr) (H H' : Hp) : Prop where
  b : But [a, R] H H'
  k : KT H H'
theorem W29.refl (a R : Addr) (H : Hp) : W29 a R H H := ⟨But.refl _ _, KT.refl _⟩
theorem W29.same {a R : Addr} {H H1 H2 : Hp} (h : W29 a R H H1) (s : Same H1 H2) : W29 a R H H2 := ⟨h.b.trans (But.of s), h.k.trans (KT.of s)⟩
theorem W29.draw {a R : Addr} {H H1 H2 : Hp} {n : Nat} (h : W29 a R H H1) (b : But [a] H1 H2) (s : SpringAt H1 a n) : W29 a R H H2 := ⟨h.b.trans (b.mono (fun z hz => by rw [List.mem_singleton.mp hz]; exact List.mem_cons_self ..)), h.k.trans (KT.draw b s)⟩
theorem W29.setR {a R : Addr} {H H1 : Hp} {l : List V} {o : HO} (h : W29 a R H H1) (e : H1 R = some (.lst l)) : W29 a R H (upd H1 R o) := ⟨h.b.put (.inr (by simp)), h.k.trans (KT.set e)⟩
/-- a way of the law: a tuple of deeds and of faults, the book's rules set in place -/
def Got29 (K : PySem.W.Frag) (a R : Addr) (H H' : Hp) (t : Addr) : Prop :=
  ∃ (A Fd : Addr) (qs us : List Addr) (rb : List RuleL) (xs : List V) (ds : List Deed) (l : List (Str × Nat)),
    But [a, R] H H' ∧ H' t = some (.tup [.ref A, .ref Fd]) ∧ H' R = some (.lst (qs.map V.ref)) ∧ Paired (RuleAt K H') qs rb ∧ GoodB rb ∧ H' A = some (.lst xs) ∧ DeedsAt K H' xs ds ∧ Playable ds ∧ ds.length ≤ 100 ∧ H' Fd = some (.lst (us.map V.ref)) ∧ Paired (FItAt H') us l ∧ ∀ d, fl 0 (runF rb d ds).2.2 = l
theorem ifEq {i j : Int} {A B : Prop} (h1 : i = j → A) (h2 : i ≠ j → B) : if decide (V.int i = V.int j) = true then A else B :=
  L2.ite2 (fun c => h1 (by have := of_decide_eq_true c; cases this; rfl)) (fun c => h2 (fun e => c (decide_eq_true (by rw [e]))))
theorem good8 {rb : List RuleL} (e : rb.length = 8) (h : (rb.all fun r => decide (r.length ≤ 6) && r.all fun x => decide (x ∈ acts)) = true) : GoodB rb :=
  ⟨e, fun r hr => by
    obtain ⟨h1, h2⟩ := Bool.and_eq_true_iff.mp (List.all_eq_true.mp h r hr)
    exact ⟨of_decide_eq_true h1, fun x hx => of_decide_eq_true (List.all_eq_true.mp h2 x hx)⟩⟩
theorem paired_set {α β : Type} {F : α → β → Prop} : ∀ {l : List α} {m : List β} {a : α} {b : β} (i : Nat), Paired F l m → F a b → Paired F (l.set i a) (m.set i b)
  | _, _, _, _, _, .nil, _ => .nil
  | _, _, _, _, 0, .cons _ t, h => .cons h t
  | _, _, _, _, i + 1, .cons r t, h => .cons r (paired_set i t h)
theorem paired_app {α β : Type} {F : α → β → Prop} {l1 l2 : List α} {m1 m2 : List β} (h : Paired F l1 m1) (g : Paired F l2 m2) : Paired F (l1 ++ l2) (m1 ++ m2) := by
  induction h with
  | nil => exact g
  | cons r _ ih => exact .cons r ih
theorem paired_rep {α β : Type} {F : α → β → Prop} {a : α} {b : β} (h : F a b) : ∀ m : Nat, Paired F (List.replicate m a) (List.replicate m b)
  | 0 => .nil
  | m + 1 => .cons h (paired_rep h m)
theorem rep_one {α : Type} (a : α) : ∀ m : Nat, (List.replicate m [a]).flatten = List.replicate m a
  | 0 => rfl
  | m + 1 => by
    rw [List.replicate_succ, List.replicate_succ, List.flatten_cons, rep_one a m]
    rfl
theorem dd_rep {K : PySem.W.Frag} {H : Hp} {v : V} {x : Deed} (h : DeedAt K H v x) (m : Nat) : DeedsAt K H (List.replicate (m : Int).toNat [v]).flatten (List.replicate m x) := by
  rw [Int.toNat_natCast, rep_one]
  exact paired_rep h m
theorem paired_reps {α β : Type} {F : α → β → Prop} {l1 : List α} {m1 : List β} (h : Paired F l1 m1) : ∀ m : Nat, Paired F (List.replicate m l1).flatten (List.replicate m m1).flatten
  | 0 => .nil
  | m + 1 => by
    rw [List.replicate_succ, List.replicate_succ, List.flatten_cons, List.flatten_cons]
    exact paired_app h (paired_reps h m)
theorem cut1' (xs : List V) : cutV xs (some 1) none = xs.drop 1 := by
  unfold cutV
  have e1 : HT.sIx xs.length xs.length none = xs.length := rfl
  rw [e1]
  cases xs with
  | nil => rfl
  | cons x l =>
    have e2 : HT.sIx (x :: l).length 0 (some 1) = 1 := by
      have := HT.sIx_nat (x :: l).length 0 1
      rw [List.length_cons, show min 1 (l.length + 1) = 1 by omega] at this
      exact this
    rw [e2]
    exact List.take_of_length_le (by rw [List.length_drop]; exact Nat.le_refl _)
theorem lt100 {m : Nat} (h : m ≤ 1000) : m < 2 ^ 100 := Nat.lt_of_le_of_lt h (by decide)
theorem playable_nc {ds : List Deed} (hl : ds.length ≤ 100) (h : ∀ d ∈ ds, ∀ p t s, d ≠ Deed.code p t s) : Playable ds := ⟨by omega, fun i p t s e => absurd rfl (h _ (List.mem_of_getElem? e) p t s)⟩
/-- codes of parcels that the first deeds brought -/
theorem playable_c {as bs : List Deed} {n : Nat} (hl : (as ++ bs).length ≤ 100) (ha : ∀ d ∈ as, ∀ p t s, d ≠ Deed.code p t s) (hn : n ≤ brs as) (hb : ∀ d ∈ bs, ∀ p t s, d = Deed.code p t s → 1 ≤ p ∧ p ≤ (n : Int)) : Playable (as ++ bs) := by
  refine ⟨by omega, fun i p t s e => ?_⟩
  by_cases hi : i < as.length
  · rw [List.getElem?_append_left hi] at e
    exact absurd rfl (ha _ (List.mem_of_getElem? e) p t s)
  · rw [List.getElem?_append_right (Nat.le_of_not_lt hi)] at e
    obtain ⟨h1, h2⟩ := hb _ (List.mem_of_getElem? e) p t s rfl
    refine ⟨h1, Int.le_trans h2 ?_⟩
    have hi2 : as.length ≤ i := Nat.le_of_not_lt hi
    have : brs as ≤ brs ((as ++ bs).take i) := by
      rw [List.take_append, List.take_of_length_le hi2]
      unfold brs
      rw [List.countP_append]
      omega
    omega
end K29

namespace K29
open PySem PySem.Spec PyProof.Rows L2 My StX
theorem paired_cdr {α β : Type} {F : α → β → Prop} {a : α} {b : β} {l : List α} {m : List β} (h : Paired F (a :: l) (b :: m)) : Paired F l m := by
  cases h with
  | cons _ t => exact t
theorem ixN_nat {n i : Nat} (h : i < n) : ixN n (i : Int) = some i := by
  unfold ixN
  rw [if_pos (by omega), if_pos (by omega), Int.toNat_natCast]
theorem trs_lt {bs : List Bool} : ∀ k ∈ trs bs, k < bs.length := fun k hk => by
  unfold trs at hk
  exact List.mem_range.mp (List.mem_filter.mp hk).1
theorem blk_len (m : Nat) : (List.replicate m blk1).flatten.length = 3 * m := by
  rw [List.length_flatten, List.map_replicate]
  show (List.replicate m 3).sum = _
  rw [List.sum_replicate_nat]
  omega
def trsI (bs : List Bool) (i : Nat) : List Nat := (List.range i).filter fun k => (bs[k]?).getD false
theorem trsI_snoc (bs : List Bool) (i : Nat) : trsI bs (i + 1) = trsI bs i ++ (if (bs[i]?).getD false = true then [i] else []) := by
  unfold trsI
  rw [List.range_succ, List.filter_append, List.filter_cons]
  cases (bs[i]?).getD false <;> rfl
section
variable {P : Program} {w : World} {K : PySem.W.Frag} {mg : Str → Option Value} {base : Heap}
def sp_law_laid (K : PySem.W.Frag) : Sp := fun vs H Q _ => ∃ (a R : Addr) (n m : Nat) (qs : List Addr), vs = [.ref a, .ref R, .int (m : Int)] ∧ 1 ≤ m ∧ m ≤ 20 ∧ SpringAt H a n ∧ n ≤ 400 ∧ H R = some (.lst (qs.map V.ref)) ∧ Paired (RuleAt K H) qs e8 ∧
  ∀ H' t, Got29 K a R H H' t → Q (.ref t) H'
set_option maxHeartbeats 2000000 in
theorem ok_law_laid (T : Txt K mg) {fd : FuncData} (F : FunD K d_law_laid.name d_law_laid.qual d_law_laid.params d_law_laid.body d_law_laid.scope (d_law_laid.dvs K) (d_law_laid.kws K) (He.fAd K d_law_laid.at_) fd) : FnOk P w K mg base C8.CX0 2 (He.fAd K d_law_laid.at_) fd ["spring", "rules", "many"] (sp_law_laid K) := by
  have c_law_each := c_law_each (P := P) (w := w) (base := base) T
  have c_law_drop := c_law_drop (P := P) (w := w) (base := base) T
  refine F.ok sc_law_laid (fun vs H Q E h => ?_) (fun cdv A outer s H vs Q E hr h => ?_)
  · obtain ⟨a, R, n, m, qs, rfl, _⟩ := h
    rfl
  · have hu := L2.hu_of hr
    obtain ⟨a, R, n, m, qs, rfl, hm1, hm2, hs, hn, hR, hq, q⟩ := h
    refine ⟨_, (PSs.nox ((pss_cons (ps_par (i := 3) (j := 4) (by rfl) sc_law_laid.nd rfl rfl (by decide) rfl rfl (pa_cons (C8.pe_c c_law_drop hr (by decide) rfl (pa_cons (pv 0) (pa_cons pe_int pa_nil))) (pa_cons (pe_tup (pa_cons pe_str (pa_cons pe_bl (pa_cons pe_bl pa_nil)))) pa_nil)) (by rfl))
  (pss_cons (ps_if (pt_cmpR op_eq (pv 3) pe_int (nomark _))
  (pss_cons (ps_set (i := 5) sc_law_laid.nd rfl (by first | exact Or.inl rfl | exact Or.inr rfl) (pe_lc (own := [("k", 6)]) (g := (gName 6)) (tt := tYes) (by rfl) sc_law_laid.nd (pi_range1 (by rfl) T.range (pa_cons (pv 2) pa_nil)) (blkOk_by (N := N_law_laid) (sc := defScope s_law_laid) (by decide +kernel)) (fun _ _ _ _ _ => (pg_name (i := 6) sc_law_laid.nd rfl (by first | exact Or.inl rfl | exact Or.inr rfl))) (fun _ _ _ _ _ => pts_nil) (fun _ _ _ _ _ => (pe_tup (pa_cons pe_str (pa_cons (pe_cmpR op_eq (C8.pe_c c_law_drop hr (by decide) rfl (pa_cons (pv 0) (pa_cons pe_int pa_nil))) pe_int (nomark _)) (pa_cons pe_bl pa_nil)))))))
  (pss_one (ps_ret (pe_tup (pa_cons (pv 5) (pa_cons (pe_lc (own := [("k", 6)]) (g := (gName 6)) (tt := tYes) (by rfl) sc_law_laid.nd (My.pi_listK (K := K) rfl (pe_slice (My.sl_listK (K := K) rfl) (pe_lc (own := [("k", 6)]) (g := (gName 6)) (by rfl) sc_law_laid.nd (pi_range1 (by rfl) T.range (pa_cons (pv 2) pa_nil)) (blkOk_by (N := N_law_laid) (sc := defScope s_law_laid) (by decide +kernel)) (fun _ _ _ _ _ => (pg_name (i := 6) sc_law_laid.nd rfl (by first | exact Or.inl rfl | exact Or.inr rfl))) (fun _ _ _ _ _ => (pts_one (pt_val (pe_ix (My.ix_tupK (K := K) rfl) (pe_ix (My.ix_listK (K := K) rfl) (pv 5) (pv 6) (fun _ _ => rfl)) pe_int (fun _ _ => rfl))))) (fun _ _ _ _ _ => (pv 6))) (po_some pe_int) po_none)) (blkOk_by (N := N_law_laid) (sc := defScope s_law_laid) (by decide +kernel)) (fun _ _ _ _ _ => (pg_name (i := 6) sc_law_laid.nd rfl (by first | exact Or.inl rfl | exact Or.inr rfl))) (fun _ _ _ _ _ => pts_nil) (fun _ _ _ _ _ => (pe_tup (pa_cons pe_str (pa_cons (pv 6) pa_nil))))) pa_nil))))))
  pss_nil)
  (pss_cons (ps_if (pt_cmpR op_eq (pv 3) pe_int (nomark _))
  (pss_one (ps_ret (pe_tup (pa_cons (pe_op op_rep (pe_lst (pa_cons (pe_tup (pa_cons pe_str (pa_cons pe_bl (pa_cons pe_bl pa_nil)))) (pa_cons (pe_tup (pa_cons pe_str pa_nil)) (pa_cons (pe_tup (pa_cons pe_str pa_nil)) pa_nil)))) (pv 2)) (pa_cons (C8.pe_c c_law_each hr (by decide) rfl (pa_cons pe_str (pa_cons pe_int (pa_cons (pe_op op_mulW pe_int (pv 2)) (pa_cons pe_int pa_nil))))) pa_nil)))))
  pss_nil)
  (pss_cons (ps_asg (pe_ix (My.ix_listK (K := K) rfl) (pe_lst (pa_cons (pe_tup (pa_cons pe_str pa_nil)) (pa_cons (pe_tup (pa_cons pe_str pa_nil)) pa_nil))) (pe_op op_sub (pv 3) pe_int) (fun _ _ => rfl)) (pg_sub (pv 1) pe_int set_list))
  (pss_one (ps_ret (pe_tup (pa_cons (pe_op op_rep (pe_lst (pa_cons (pv 4) pa_nil)) (pv 2)) (pa_cons (pe_lst pa_nil) pa_nil))))))))))), ?_⟩
    refine ⟨_, rfl, a, n, 4, rfl, hs, lt100 (by omega), by decide, by decide, fun H1 way b1 s1 k0 k1 => ⟨by show 3 ≤ sizeLine; decide, fun tb htb => ⟨_, _, rfl, ?_⟩⟩⟩
    have w1 : W29 a R H H1 := (W29.refl a R H).draw b1 hs
    have hR1 := rawS b1 hs hR (refs_no _)
    have yb := same_new (o := .tup [.str "bring", .bl true, .bl true]) htb
    have w2 := w1.same yb
    have s2 := s1.same yb
    have hR2 := yb _ _ hR1
    have hb2 : upd H1 tb (.tup [.str "bring", .bl true, .bl true]) tb = some (.tup [.str "bring", .bl true, .bl true]) := upd_same
    show Ends.nx _ [some (.ref a), some (.ref R), some (.int (m : Int)), some (.int way), some (.ref tb), none, none] (upd H1 tb (.tup [.str "bring", .bl true, .bl true]))
    generalize upd H1 tb (.tup [.str "bring", .bl true, .bl true]) = H2 at w2 s2 hR2 hb2
    have hql : qs.length = 8 := hq.length
    obtain ⟨q0, qr, rfl⟩ : ∃ q0 qr, qs = q0 :: qr := by
      cases qs with
      | nil => cases hql
      | cons x l => exact ⟨x, l, rfl⟩
    refine ⟨_, rfl, rfl, _, rfl, ifEq (fun c => ?_) (fun c0 => ?_)⟩
    · subst c
      refine ⟨_, rfl, _, rfl, by omega, by omega, fun D hD => ?_⟩
      rw [Int.toNat_natCast]
      have yD := same_new (o := .lst []) hD
      refine lc_it walk_range (fun i H' => W29 a R H H' ∧ SpringAt H' a (n + 1 + i) ∧ H' R = some (.lst ((q0 :: qr).map V.ref)) ∧ ∃ (us : List Addr) (bs : List Bool), bs.length = i ∧ H' D = some (.lst (us.map V.ref)) ∧ DeedsAt K H' (us.map V.ref) (bs.map fun b => Deed.bring b true)) ⟨w2.same yD, s2.same yD, yD _ _ hR2, [], [], rfl, upd_same, .nil⟩ (fun _ _ _ _ => trivial) ?_ ?_
      · rintro i y H5 H4 hi ⟨w4, s4, hR4, us, bs, hbl, hD4, hd4⟩ hY
        obtain ⟨rfl, rfl⟩ := hY
        refine ⟨rfl, ?_⟩
        refine ⟨_, rfl, a, _, 2, rfl, s4, lt100 (by omega), by decide, by decide, fun H6 k6 b6 s6 k60 k61 => ⟨rfl, by show 3 ≤ sizeLine; decide, fun t ht => ?_⟩⟩
        generalize decide (V.int k6 = V.int 0) = b at *
        have w6 := w4.draw b6 s4
        have hR6 := rawS b6 s4 hR4 (refs_no _)
        have hD6 := rawS b6 s4 hD4 (refs_no _)
        have k6' := KT.draw b6 s4
        have y7 := same_new (o := .tup [.str "bring", .bl b, .bl true]) ht
        have hul : us.length = i := by
          have := hd4.length
          rw [List.length_map, List.length_map] at this
          omega
        have hD7 := y7 _ _ hD6
        have kt := (k6'.trans (KT.of y7)).trans (KT.set (o := .lst (us.map V.ref ++ [.ref t])) hD7)
        have hRD : R ≠ D := ne_of_none hR2 hD
        have hDf : H6 D ≠ none := fun z => by rw [hD6] at z; cases z
        have ntD : t ≠ D := (ne_of_none hD6 ht).symm
        refine ⟨_, hD7, by rw [List.length_map]; exact lt_line (by omega), ⟨?_, (w6.k.trans (KT.of y7)).trans (KT.set hD7)⟩, ?_, (upd_ne hRD).trans (y7 _ _ hR6), us ++ [t], bs ++ [b], by rw [List.length_append, hbl]; rfl, by rw [upd_same, List.map_append]; rfl, ?_⟩
        · exact but_putF (w6.b.trans (But.of y7)) w2.b hD
        · exact ((s6.same y7).put (SpringAt.ne (s6.same y7) hD7 (refs_no _))).mono (by omega)
        · rw [List.map_append, List.map_append]
          exact Paired.snoc (kt.deeds hd4) ⟨t, rfl, SqT.of (by rw [upd_ne ntD]; exact upd_same)⟩
      · rintro H4 ⟨w4, s4, hR4, us, bs, hbl, hD4, hd4⟩
        have hul : us.length = m := by
          have := hd4.length
          rw [List.length_map, List.length_map] at this
          omega
        refine ⟨_, rfl, ?_⟩
        refine ⟨_, rfl, _, rfl, by omega, by omega, fun D2 hD2 => ?_⟩
        rw [Int.toNat_natCast]
        have y5 := same_new (o := .lst []) hD2
        refine lc_it walk_range (fun i H' => Same H4 H' ∧ H' D2 = some (.lst ((trsI bs i).map fun k : Nat => V.int (k : Int)))) ⟨y5, upd_same⟩ (fun _ _ _ _ => trivial) ?_ ?_
        · rintro i y H7 H6 hi ⟨y6, hD6⟩ hY
          obtain ⟨rfl, rfl⟩ := hY
          have hi2 : i < bs.length := by omega
          obtain ⟨u, hu⟩ : ∃ u, us[i]? = some u := ⟨us[i]'(by omega), List.getElem?_eq_getElem (by omega)⟩
          obtain ⟨dd, hdd, hda⟩ := paired_at hd4 (show (us.map V.ref)[i]? = some (.ref u) by rw [List.getElem?_map, hu]; rfl)
          obtain ⟨b, hb⟩ : ∃ b, bs[i]? = some b := ⟨bs[i], List.getElem?_eq_getElem hi2⟩
          have ed : dd = Deed.bring b true := by
            rw [List.getElem?_map, hb] at hdd
            exact (Option.some.inj hdd).symm
          subst ed
          obtain ⟨u', eu, hu'⟩ := hda
          cases eu
          have hu6 := same_tup y6 hu'
          have e0 : (0 : Int) + (i : Nat) = (i : Int) := Int.zero_add _
          have hD26 : H6 D = some (.lst (us.map V.ref)) := y6 _ _ hD4
          have nD2 : D ≠ D2 := ne_of_none hD4 hD2
          refine ⟨rfl, _, rfl, _, rfl, D, _, _, _, rfl, rfl, SqL.of hD26, by rw [e0]; exact atI_nat (by rw [List.getElem?_map, hu]; rfl), u, _, 1, _, rfl, rfl, hu6, rfl, _, rfl, L2.ite2 (fun c => ?_) (fun c => ?_)⟩
          · subst c
            refine ⟨_, rfl, _, hD6, by rw [List.length_map]; exact lt_line (Nat.le_trans (List.length_filter_le _ _) (by rw [List.length_range]; omega)), same_upd y6 hD2, ?_⟩
            rw [upd_same, trsI_snoc, hb, List.map_append]
            show some (HO.lst (_ ++ [V.int (0 + (i : Nat))])) = some (HO.lst (_ ++ [V.int (i : Nat)]))
            rw [e0]
          · refine ⟨y6, ?_⟩
            rw [hD6, trsI_snoc, hb, Option.getD_some, if_neg c, List.append_nil]
        · rintro H6 ⟨y6, hD6⟩
          have et : trsI bs m = trs bs := by rw [← hbl]; rfl
          rw [et] at hD6
          refine ⟨_, rfl, D2, _, rfl, SqL.of hD6, fun D3 hD3 => ?_⟩
          rw [cut1']
          have y7 := same_new (o := .lst (((trs bs).map fun k : Nat => V.int (k : Int)).drop 1)) hD3
          have hD37 : upd H6 D3 (.lst (((trs bs).map fun k : Nat => V.int (k : Int)).drop 1)) D3 = some (.lst ((trs bs).tail.map fun k : Nat => V.int (k : Int))) := by rw [upd_same, ← List.map_drop, List.drop_one]
          generalize upd H6 D3 (.lst (((trs bs).map fun k : Nat => V.int (k : Int)).drop 1)) = H7 at y7 hD37
          have htl : (trs bs).tail.length ≤ 20 := by
            rw [List.length_tail]
            have := List.length_filter_le (fun k => (bs[k]?).getD false) (List.range bs.length)
            rw [List.length_range] at this
            have e : (trs bs).length ≤ bs.length := this
            omega
          refine ⟨D3, rfl, ⟨_, SqL.of hD37⟩, fun D4 hD4n => ?_⟩
          have y8 := same_new (o := .lst []) hD4n
          refine lc_it (walk_list (xs := (trs bs).tail.map fun k : Nat => V.int (k : Int))) (fun i H' => Same H7 H' ∧ ∃ ws : List Addr, H' D4 = some (.lst (ws.map V.ref)) ∧ Paired (FItAt H') ws (((trs bs).tail.map fun k : Nat => (("two" : Str), k)).take i)) ⟨y8, [], upd_same, .nil⟩ (fun _ _ _ hh => SqL.of (hh.1 _ _ hD37)) ?_ ?_
          · rintro i y H9 H8 hi ⟨y9, ws, hD8, hw⟩ hY
            obtain ⟨rfl, hx⟩ := hY
            have hi2 : i < (trs bs).tail.length := by rw [List.length_map] at hi; exact hi
            obtain ⟨k, hk⟩ : ∃ k, (trs bs).tail[i]? = some k := ⟨_, List.getElem?_eq_getElem hi2⟩
            rw [List.getElem?_map, hk] at hx
            have ey : V.int (k : Int) = y := Option.some.inj hx
            subst ey
            refine ⟨rfl, _, rfl, by show 2 ≤ sizeLine; decide, fun t ht => ?_⟩
            have x1 := same_new (o := .tup [.str "two", .int (k : Int)]) ht
            have ntD : t ≠ D4 := (ne_of_none hD8 ht).symm
            have kt := (KT.of x1).trans (KT.set (o := .lst (ws.map V.ref ++ [.ref t])) (x1 _ _ hD8))
            have hwl := hw.length
            rw [List.length_take, List.length_map] at hwl
            refine ⟨_, x1 _ _ hD8, by rw [List.length_map]; exact lt_line (by omega), same_upd (y9.trans x1) hD4n, ws ++ [t], by rw [upd_same, List.map_append]; rfl, ?_⟩
            rw [take_more (show ((trs bs).tail.map fun k : Nat => (("two" : Str), k))[i]? = some (("two" : Str), k) by rw [List.getElem?_map, hk]; rfl)]
            refine Paired.snoc (kt.fits hw) ?_
            show upd (upd _ t _) D4 _ t = some (.tup [.str "two", .int (k : Int)])
            rw [upd_ne ntD, upd_same]
          · rintro H8 ⟨y9, ws, hD8, hw⟩
            rw [List.take_of_length_le (by rw [List.length_map, List.length_map]; exact Nat.le_refl _)] at hw
            refine ⟨by show 2 ≤ sizeLine; decide, fun t ht => ?_⟩
            have y10 := same_new (o := .tup [.ref D, .ref D4]) ht
            have yy := (y6.trans (y7.trans y9)).trans y10
            have w9 := w4.same yy
            refine q _ t ⟨D, D4, _, ws, e8, _, _, _, w9.b, upd_same, yy _ _ hR4, w9.k.rules hq, good8 rfl (by decide), yy _ _ hD4, DeedsAt.same yy hd4, playable_nc (by rw [List.length_map]; omega) fun d hd p t s e => ?_, by rw [List.length_map]; omega, y10 _ _ hD8, (KT.of y10).fits hw, fun d => ?_⟩
            · subst e
              obtain ⟨b, _, e⟩ := List.mem_map.mp hd
              cases e
            · obtain ⟨S, Us, hr, _, _, hf⟩ := laid0 d bs
              unfold RunIs at hr
              rw [hr]
              exact hf
    refine ⟨_, rfl, rfl, _, rfl, ifEq (fun c => ?_) (fun c1 => ?_)⟩
    · subst c
      refine ⟨by show 3 ≤ sizeLine; decide, fun t1 ht1 => ⟨by show 1 ≤ sizeLine; decide, fun t2 ht2 => ⟨by show 1 ≤ sizeLine; decide, fun t3 ht3 => ⟨by show 3 ≤ sizeLine; decide, fun l4 hl4 => ?_⟩⟩⟩⟩
      have y1 := same_new (o := .tup [.str "bring", .bl true, .bl false]) ht1
      have y2 := same_new (o := .tup [.str "pass"]) ht2
      have y3 := same_new (o := .tup [.str "pass"]) ht3
      have y4 := same_new (o := .lst [.ref t1, .ref t2, .ref t3]) hl4
      refine ⟨_, rfl, l4, _, _, rfl, rfl, upd_same, by omega, by omega, by show 3 * (m : Int).toNat ≤ sizeLine; exact Nat.le_trans (show 3 * (m : Int).toNat ≤ 60 by omega) (by decide), fun A hA => ?_⟩
      have y5 := same_new (o := .lst (List.replicate (m : Int).toNat [V.ref t1, .ref t2, .ref t3]).flatten) hA
      have st := (y1.trans (y2.trans (y3.trans (y4.trans y5))))
      have d1 : DeedAt K _ (.ref t1) (.bring true false) := ⟨t1, rfl, same_tup (y2.trans (y3.trans (y4.trans y5))) (SqT.of upd_same)⟩
      have d2 : DeedAt K _ (.ref t2) .pass := ⟨t2, rfl, same_tup (y3.trans (y4.trans y5)) (SqT.of upd_same)⟩
      have d3 : DeedAt K _ (.ref t3) .pass := ⟨t3, rfl, same_tup (y4.trans y5) (SqT.of upd_same)⟩
      have hA3' : upd (upd (upd (upd (upd H2 t1 (.tup [.str "bring", .bl true, .bl false])) t2 (.tup [.str "pass"])) t3 (.tup [.str "pass"])) l4 (.lst [.ref t1, .ref t2, .ref t3])) A (.lst (List.replicate (m : Int).toNat [V.ref t1, .ref t2, .ref t3]).flatten) A = some (.lst (List.replicate m [V.ref t1, .ref t2, .ref t3]).flatten) := upd_same
      rw [Int.toNat_natCast] at *
      generalize upd (upd (upd (upd (upd H2 t1 (.tup [.str "bring", .bl true, .bl false])) t2 (.tup [.str "pass"])) t3 (.tup [.str "pass"])) l4 (.lst [.ref t1, .ref t2, .ref t3])) A (.lst (List.replicate m [V.ref t1, .ref t2, .ref t3]).flatten) = H3 at *
      have hA3 : H3 A = some (.lst (List.replicate m [V.ref t1, .ref t2, .ref t3]).flatten) := hA3'
      refine ⟨_, rfl, _, _, rfl, rfl, wide_mul (a := 10) (b := 10) (by decide) (Nat.lt_of_le_of_lt (show (m : Int).natAbs ≤ 20 by omega) (by decide)) (by decide) (by decide) (by decide), ?_⟩
      refine ⟨"wrong", 1, m, 3, _, rfl, by have := rg3 hm1 (show m ≤ 1000 by omega); rw [Int.natCast_mul] at this; exact this, by omega, fun H4 Fd us s4 hFn hF hfl => ⟨by show 2 ≤ sizeLine; decide, fun t ht => ?_⟩⟩
      have y6 := same_new (o := .tup [.ref A, .ref Fd]) ht
      have s5 := s4.trans y6
      have w5 := (w2.same st).same s5
      refine q _ t ?_
      refine ⟨A, Fd, _, us, e8, _, (List.replicate m blk1).flatten, _, w5.b, upd_same, s5 _ _ (st _ _ hR2), w5.k.rules hq, good8 rfl (by decide), s5 _ _ hA3, DeedsAt.same s5 (paired_reps (.cons d1 (.cons d2 (.cons d3 .nil))) m), ?_, ?_, y6 _ _ hF, (KT.of y6).fits hfl, fun d => ?_⟩
      · refine playable_nc (by rw [blk_len]; omega) fun d hd p t s e => ?_
        obtain ⟨l, hl, hd⟩ := List.mem_flatten.mp hd
        rw [(List.mem_replicate.mp hl).2] at hd
        subst e
        simp [blk1] at hd
      · rw [blk_len]; omega
      · obtain ⟨S, Us, hr, _, _, hf⟩ := laid1 d m
        unfold RunIs at hr
        rw [hr]
        exact hf
    obtain ⟨j, hj, rfl⟩ : ∃ j : Nat, j < 2 ∧ way = (j : Int) + 2 := ⟨(way - 2).toNat, by omega, by omega⟩
    refine ⟨by show 1 ≤ sizeLine; decide, fun r2 hr2 => ⟨by show 1 ≤ sizeLine; decide, fun r3 hr3 => ⟨by show 2 ≤ sizeLine; decide, fun l4 hl4 => ?_⟩⟩⟩
    have fin : ∀ (H3 : Hp) (r : Addr) (rk : RuleL), RuleAt K H3 r rk → W29 a R H H3 → H3 R = some (.lst ((q0 :: qr).map V.ref)) → H3 tb = some (.tup [.str "bring", .bl true, .bl true]) → GoodB (rk :: [[], [], [], [], [], [], []]) → (∀ d, fl 0 (runF (rk :: [[], [], [], [], [], [], []]) d (List.replicate m (.bring true true))).2.2 = []) →
        gSub (tVar 1) (tC (V.int 0)) rSetL (V.ref r) [some (V.ref a), some (V.ref R), some (V.int ↑m), some (V.int (↑j + 2)), some (V.ref tb), none, none] H3
          (fun σ H => tRet (tTup (tCons (tOp rRep (tLst (tCons (tVar 4) tNil)) (tVar 2)) (tCons (tLst tNil) tNil))) { nx := fun x H' => Q V.non H', rt := Q } σ H) := by
      intro H3 r rk hr w3 hR3 hb3 hg hf
      refine ⟨_, rfl, R, _, 0, 0, rfl, rfl, hR3, ixN_nat (i := 0) (by rw [List.length_map, hql]; decide), ?_⟩
      have w4 := w3.setR (o := .lst (((q0 :: qr).map V.ref).set 0 (V.ref r))) hR3
      have kt := KT.set (o := .lst (((q0 :: qr).map V.ref).set 0 (V.ref r))) hR3
      have hb4 := kt _ _ (fun l z => by cases z) hb3
      have hR4 : upd H3 R (.lst (((q0 :: qr).map V.ref).set 0 (V.ref r))) R = some (.lst ((r :: qr).map V.ref)) := upd_same
      have hr4 := kt.tup hr
      show tRet _ _ _ (upd H3 R (.lst (((q0 :: qr).map V.ref).set 0 (V.ref r))))
      generalize upd H3 R (.lst (((q0 :: qr).map V.ref).set 0 (V.ref r))) = H4 at w4 hb4 hR4 hr4
      refine ⟨_, rfl, by show 1 ≤ sizeLine; decide, fun l1 hl1 => ⟨_, rfl, l1, _, _, rfl, rfl, upd_same, by omega, by omega, by show 1 * (m : Int).toNat ≤ sizeLine; exact Nat.le_trans (show 1 * (m : Int).toNat ≤ 60 by omega) (by decide), fun A hA => ⟨Nat.zero_le _, fun Fd hFd => ⟨by show 2 ≤ sizeLine; decide, fun t ht => ?_⟩⟩⟩⟩
      have z1 := same_new (o := .lst [.ref tb]) hl1
      have z2 := same_new (o := .lst (List.replicate (m : Int).toNat [V.ref tb]).flatten) hA
      have z3 := same_new (o := .lst []) hFd
      have z4 := same_new (o := .tup [.ref A, .ref Fd]) ht
      have zz := z1.trans (z2.trans (z3.trans z4))
      have w5 := w4.same zz
      refine q _ t ⟨A, Fd, _, [], _, _, List.replicate m (.bring true true), [], w5.b, upd_same, zz _ _ hR4, ?_, hg, (z3.trans z4) _ _ upd_same, ?_, ?_, ?_, z4 _ _ upd_same, .nil, hf⟩
      · exact .cons (same_tup zz hr4) (paired_cdr (w5.k.rules hq))
      · exact dd_rep (x := .bring true true) ⟨tb, rfl, SqT.of (zz _ _ hb4)⟩ m
      · refine playable_nc (by rw [List.length_replicate]; omega) fun d hd p t s e => ?_
        rw [(List.mem_replicate.mp hd).2] at e
        cases e
      · rw [List.length_replicate]; omega
    have x2 := same_new (o := .tup [.str "lock"]) hr2
    have x3 := same_new (o := .tup [.str "full"]) hr3
    have x4 := same_new (o := .lst [.ref r2, .ref r3]) hl4
    have xx := x2.trans (x3.trans x4)
    obtain rfl | rfl : j = 0 ∨ j = 1 := by omega
    · refine ⟨_, rfl, _, _, rfl, rfl, l4, _, _, _, rfl, rfl, SqL.of upd_same, rfl, ?_⟩
      exact fin _ r2 ["lock"] (same_tup (x3.trans x4) (SqT.of upd_same)) (w2.same xx) (xx _ _ hR2) (xx _ _ hb2) (good8 rfl (by decide)) fun d => laid2 d m
    · refine ⟨_, rfl, _, _, rfl, rfl, l4, _, _, _, rfl, rfl, SqL.of upd_same, rfl, ?_⟩
      exact fin _ r3 ["full"] (same_tup x4 (SqT.of upd_same)) (w2.same xx) (xx _ _ hR2) (xx _ _ hb2) (good8 rfl (by decide)) fun d => laid3 d m
theorem c_law_laid (T : Txt K mg) : C8.Cal P w K mg base 2 "_law_laid" (sp_law_laid K) [] := by
  obtain ⟨fd, F⟩ := T.f_law_laid
  exact ⟨_, fd, _, _, ok_law_laid T F, T.g_law_laid, F.kp, F.bindsN (fun _ _ _ _ _ _ us hl => match us, hl with | [_, _, _], _ => rfl), .nil⟩
end
end K29

namespace K29
open PySem PySem.Spec PyProof.Rows L2 My StX
theorem len8q {qs : List Addr} (e : qs.length = 8) : ∃ q0 q1 q2 q3 q4 q5 q6 q7, qs = [q0, q1, q2, q3, q4, q5, q6, q7] := by
  match qs, e with
  | [a0, a1, a2, a3, a4, a5, a6, a7], _ => exact ⟨a0, a1, a2, a3, a4, a5, a6, a7, rfl⟩
theorem dd_rep' {K : PySem.W.Frag} {H : Hp} {v : V} {x : Deed} (h : DeedAt K H v x) {k : Int} {m : Nat} (e : k = (m : Int)) : DeedsAt K H (List.replicate k.toNat [v]).flatten (List.replicate m x) := by
  subst e
  exact dd_rep h m
theorem rg1i {a c : Nat} {b : Int} (hb : b = (a : Int) + c) (ha : a ≤ 1000) (hc : c ≤ 1000) : RgC (a : Int) b ((1 : Nat) : Int) c := by
  have := rg1 (a := a) (b := a + c) (by omega) (by omega)
  rw [Nat.add_sub_cancel_left] at this
  subst hb
  exact this
theorem playable_1 {ds : List Deed} (h : ds.head?.any isBr = true) (hl : ds.length ≤ 100) (hc : ∀ d ∈ ds, ∀ p t s, d = Deed.code p t s → p = 1) : Playable ds := by
  refine ⟨by omega, fun i p t s e => ?_⟩
  have h1 := hc _ (List.mem_of_getElem? e) p t s rfl
  subst h1
  refine ⟨by decide, ?_⟩
  cases ds with
  | nil => cases h
  | cons x l =>
    have hx : isBr x = true := h
    cases i with
    | zero =>
      have : x = Deed.code 1 t s := Option.some.inj e
      subst this
      cases hx
    | succ i =>
      have : 1 ≤ brs ((x :: l).take (i + 1)) := by
        rw [List.take_succ_cons]
        unfold brs
        rw [List.countP_cons, hx, if_pos rfl]
        omega
      omega
theorem rep_code {m : Nat} {a b : Bool} {d : Deed} (h : d ∈ List.replicate m (Deed.code 1 a b)) (p : Int) (t s : Bool) (e : d = Deed.code p t s) : p = 1 := by
  rw [(List.mem_replicate.mp h).2] at e
  cases e
  rfl
theorem rep_size {α : Type} {v : α} {k : Int} (h : k.toNat ≤ 100) : [v].length * k.toNat ≤ sizeLine := Nat.le_trans (show 1 * k.toNat ≤ 100 by omega) (by decide)
theorem rep_len {α : Type} {v : α} {k : Int} : (List.replicate k.toNat [v]).flatten.length = k.toNat := by
  rw [rep_one, List.length_replicate]
section
variable {P : Program} {w : World} {K : PySem.W.Frag} {mg : Str → Option Value} {base : Heap}
def sp_law_opened (K : PySem.W.Frag) : Sp := fun vs H Q _ => ∃ (a R : Addr) (n m : Nat) (qs : List Addr), vs = [.ref a, .ref R, .int (m : Int)] ∧ 1 ≤ m ∧ m ≤ 20 ∧ SpringAt H a n ∧ n ≤ 400 ∧ H R = some (.lst (qs.map V.ref)) ∧ Paired (RuleAt K H) qs e8 ∧
  ∀ H' t, Got29 K a R H H' t → Q (.ref t) H'
set_option maxHeartbeats 2000000 in
theorem ok_law_opened (T : Txt K mg) {fd : FuncData} (F : FunD K d_law_opened.name d_law_opened.qual d_law_opened.params d_law_opened.body d_law_opened.scope (d_law_opened.dvs K) (d_law_opened.kws K) (He.fAd K d_law_opened.at_) fd) : FnOk P w K mg base C8.CX0 2 (He.fAd K d_law_opened.at_) fd ["spring", "rules", "many"] (sp_law_opened K) := by
  have c3_law_each := c3_law_each (P := P) (w := w) (base := base) T
  have c_law_drop := c_law_drop (P := P) (w := w) (base := base) T
  refine F.ok sc_law_opened (fun vs H Q E h => ?_) (fun cdv A outer s H vs Q E hr h => ?_)
  · obtain ⟨a, R, n, m, qs, rfl, _⟩ := h
    rfl
  · have hu := L2.hu_of hr
    obtain ⟨a, R, n, m, qs, rfl, hm1, hm2, hs, hn, hR, hq, q⟩ := h
    refine ⟨_, (PSs.nox ((pss_cons (ps_par (i := 3) (j := 4) (by rfl) sc_law_opened.nd rfl rfl (by decide) rfl rfl (pa_cons (C8.pe_c c_law_drop hr (by decide) rfl (pa_cons (pv 0) (pa_cons pe_int pa_nil))) (pa_cons (pe_tup (pa_cons pe_str (pa_cons pe_int (pa_cons pe_bl (pa_cons pe_bl pa_nil))))) pa_nil)) (by rfl))
  (pss_cons (ps_asg (pe_tup (pa_cons pe_str (pa_cons pe_str (pa_cons pe_str pa_nil)))) (pg_sub (pv 1) pe_int set_list))
  (pss_cons (ps_if (pt_cmpR op_eq (pv 3) pe_int (nomark _))
  (pss_cons (ps_asg (pe_ix (My.ix_listK (K := K) rfl) (pe_lst (pa_cons (pe_tup (pa_cons pe_int (pa_cons (pe_op op_add pe_int (C8.pe_c c_law_drop hr (by decide) rfl (pa_cons (pv 0) (pa_cons (pv 2) pa_nil)))) pa_nil))) (pa_cons (pe_tup (pa_cons (pe_op op_add pe_int (pv 2)) (pa_cons pe_int pa_nil))) pa_nil))) (C8.pe_c c_law_drop hr (by decide) rfl (pa_cons (pv 0) (pa_cons pe_int pa_nil))) (fun _ _ => rfl)) (My.pg_tupK (K := K) (n := 2) rfl rfl (pgs_cons (pg_name (i := 5) sc_law_opened.nd rfl (by first | exact Or.inl rfl | exact Or.inr rfl)) (pgs_cons (pg_name (i := 6) sc_law_opened.nd rfl (by first | exact Or.inl rfl | exact Or.inr rfl)) pgs_nil))))
  (pss_cons (ps_set (i := 7) sc_law_opened.nd rfl (by first | exact Or.inl rfl | exact Or.inr rfl) (pe_op op_cat (pe_op op_rep (pe_lst (pa_cons (pe_tup (pa_cons pe_str (pa_cons pe_bl (pa_cons pe_bl pa_nil)))) pa_nil)) (pe_op op_add pe_int (pv 2))) (pe_lst (pa_cons (pe_tup (pa_cons pe_str (pa_cons (pv 5) (pa_cons pe_bl (pa_cons pe_bl pa_nil))))) (pa_cons (pe_tup (pa_cons pe_str (pa_cons (pv 6) (pa_cons pe_bl (pa_cons pe_bl pa_nil))))) pa_nil)))))
  (pss_cons (ps_set (i := 8) sc_law_opened.nd rfl (by first | exact Or.inl rfl | exact Or.inr rfl) (pe_op op_cat (C8.pe_c c3_law_each hr (by decide) rfl (pa_cons pe_str (pa_cons pe_int (pa_cons (pe_op op_add (pv 2) pe_int) pa_nil)))) (pe_lst (pa_cons (pe_tup (pa_cons pe_str (pa_cons (pe_op op_add (pv 2) pe_int) pa_nil))) (pa_cons (pe_tup (pa_cons pe_str (pa_cons (pe_op op_add (pv 2) pe_int) pa_nil))) pa_nil)))))
  (pss_one (ps_ret (pe_tup (pa_cons (pe_op op_cat (pv 7) (pe_lst (pa_cons (pe_tup (pa_cons pe_str (pa_cons (pv 5) (pa_cons pe_bl (pa_cons pe_bl pa_nil))))) pa_nil))) (pa_cons (pv 8) pa_nil))))))))
  pss_nil)
  (pss_cons (ps_if (pt_cmpR op_eq (pv 3) pe_int (nomark _))
  (pss_one (ps_ret (pe_tup (pa_cons (pe_op op_cat (pe_op op_cat (pe_lst (pa_cons (pe_tup (pa_cons pe_str (pa_cons pe_bl (pa_cons pe_bl pa_nil)))) pa_nil)) (pe_op op_rep (pe_lst (pa_cons (pe_tup (pa_cons pe_str (pa_cons pe_int (pa_cons pe_bl (pa_cons pe_bl pa_nil))))) pa_nil)) (pv 2))) (pe_op op_rep (pe_lst (pa_cons (pv 4) pa_nil)) (pe_op op_add pe_int (pv 2)))) (pa_cons (pe_lst pa_nil) pa_nil)))))
  pss_nil)
  (pss_cons (ps_if (pt_cmpR op_eq (pv 3) pe_int (nomark _))
  (pss_one (ps_ret (pe_tup (pa_cons (pe_op op_cat (pe_lst (pa_cons (pe_tup (pa_cons pe_str (pa_cons pe_bl (pa_cons pe_bl pa_nil)))) pa_nil)) (pe_op op_rep (pe_lst (pa_cons (pv 4) pa_nil)) (pv 2))) (pa_cons (C8.pe_c c3_law_each hr (by decide) rfl (pa_cons pe_str (pa_cons pe_int (pa_cons (pe_op op_add (pv 2) pe_int) pa_nil)))) pa_nil)))))
  pss_nil)
  (pss_cons (ps_if (pt_cmpR op_eq (pv 3) pe_int (nomark _))
  (pss_cons (ps_asg (pe_tup (pa_cons pe_str pa_nil)) (pg_sub (pv 1) pe_int set_list))
  (pss_one (ps_ret (pe_tup (pa_cons (pe_op op_cat (pe_lst (pa_cons (pe_tup (pa_cons pe_str (pa_cons pe_bl (pa_cons pe_bl pa_nil)))) pa_nil)) (pe_op op_rep (pe_lst (pa_cons (pv 4) pa_nil)) (pv 2))) (pa_cons (pe_lst pa_nil) pa_nil))))))
  pss_nil)
  (pss_cons (ps_set (i := 7) sc_law_opened.nd rfl (by first | exact Or.inl rfl | exact Or.inr rfl) (pe_op op_cat (pe_lst (pa_cons (pe_tup (pa_cons pe_str (pa_cons pe_bl (pa_cons pe_bl pa_nil)))) (pa_cons (pe_tup (pa_cons pe_str (pa_cons pe_bl (pa_cons pe_bl pa_nil)))) pa_nil))) (pe_op op_rep (pe_lst (pa_cons (pv 4) pa_nil)) (pe_op op_add pe_int (pv 2)))))
  (pss_one (ps_ret (pe_tup (pa_cons (pv 7) (pa_cons (pe_op op_cat (pe_lst (pa_cons (pe_tup (pa_cons pe_str (pa_cons pe_int pa_nil))) pa_nil)) (C8.pe_c c3_law_each hr (by decide) rfl (pa_cons pe_str (pa_cons pe_int (pa_cons (pe_op op_add (pv 2) pe_int) pa_nil))))) pa_nil)))))))))))))), ?_⟩
    refine ⟨_, rfl, a, n, 5, rfl, hs, lt100 (by omega), by decide, by decide, fun H1 way b1 s1 k0 k1 => ⟨by show 4 ≤ sizeLine; decide, fun tc htc => ⟨_, _, rfl, ?_⟩⟩⟩
    have w1 : W29 a R H H1 := (W29.refl a R H).draw b1 hs
    have hR1 := rawS b1 hs hR (refs_no _)
    have yb := same_new (o := .tup [.str "code", .int 1, .bl true, .bl true]) htc
    have w2 := w1.same yb
    have s2 := s1.same yb
    have hR2 := yb _ _ hR1
    have hc2 : upd H1 tc (.tup [.str "code", .int 1, .bl true, .bl true]) tc = some (.tup [.str "code", .int 1, .bl true, .bl true]) := upd_same
    show Ends.nx _ [some (.ref a), some (.ref R), some (.int (m : Int)), some (.int way), some (.ref tc), none, none, none, none] (upd H1 tc (.tup [.str "code", .int 1, .bl true, .bl true]))
    generalize upd H1 tc (.tup [.str "code", .int 1, .bl true, .bl true]) = H2 at w2 s2 hR2 hc2
    have hql : qs.length = 8 := hq.length
    obtain ⟨q0, q1, q2, q3, q4, q5, q6, q7, rfl⟩ := len8q hql
    refine ⟨by show 3 ≤ sizeLine; decide, fun tr htr => ⟨_, rfl, ?_⟩⟩
    have yr := same_new (o := .tup [.str "full", .str "code", .str "free"]) htr
    have hR3 := yr _ _ hR2
    refine ⟨R, _, 1, 1, rfl, rfl, hR3, rfl, ?_⟩
    have hr3 : RuleAt K (upd H2 tr (.tup [.str "full", .str "code", .str "free"])) tr thr := SqT.of upd_same
    have kt := KT.set (o := .lst (([q0, q1, q2, q3, q4, q5, q6, q7].map V.ref).set 1 (.ref tr))) hR3
    have w4 := (w2.same yr).setR (o := .lst (([q0, q1, q2, q3, q4, q5, q6, q7].map V.ref).set 1 (.ref tr))) hR3
    have hR4 : upd (upd H2 tr (.tup [.str "full", .str "code", .str "free"])) R (.lst (([q0, q1, q2, q3, q4, q5, q6, q7].map V.ref).set 1 (.ref tr))) R = some (.lst ([q0, tr, q2, q3, q4, q5, q6, q7].map V.ref)) := upd_same
    have rl4 : Paired (RuleAt K _) [q0, tr, q2, q3, q4, q5, q6, q7] eO := paired_set 1 (w4.k.rules hq) (kt.tup hr3)
    have hc4 := kt _ _ (fun l z => by cases z) (yr _ _ hc2)
    have nsR : a ≠ R := hs.ne hR (refs_no _)
    have s4 : SpringAt _ a (n + 1) := (s2.same yr).put (o := .lst (([q0, q1, q2, q3, q4, q5, q6, q7].map V.ref).set 1 (.ref tr))) nsR
    have hg : GoodB eO := good8 rfl (by decide)
    show Ends.nx _ [some (.ref a), some (.ref R), some (.int (m : Int)), some (.int way), some (.ref tc), none, none, none, none] (upd (upd H2 tr (.tup [.str "full", .str "code", .str "free"])) R (.lst (([q0, q1, q2, q3, q4, q5, q6, q7].map V.ref).set 1 (.ref tr))))
    generalize upd (upd H2 tr (.tup [.str "full", .str "code", .str "free"])) R (.lst (([q0, q1, q2, q3, q4, q5, q6, q7].map V.ref).set 1 (.ref tr))) = H4 at w4 hR4 rl4 hc4 s4
    have dc : ∀ HH, Same H4 HH → DeedAt K HH (.ref tc) (.code 1 true true) := fun HH s => ⟨tc, rfl, SqT.of (s _ _ hc4)⟩
    refine ⟨_, rfl, rfl, _, rfl, ifEq (fun c => ?_) (fun c0 => ?_)⟩
    · subst c
      have body : ∀ (H5 : Hp) (o u : Int), W29 a R H H5 → H5 R = some (.lst ([q0, tr, q2, q3, q4, q5, q6, q7].map V.ref)) → Paired (RuleAt K H5) [q0, tr, q2, q3, q4, q5, q6, q7] eO → 1 ≤ o ∧ o ≤ ((1 + m : Nat) : Int) → 1 ≤ u ∧ u ≤ ((1 + m : Nat) : Int) → u ≠ o →
          (tSeq (tAsg (tOp rCat (tOp rRep (tLst (tCons (tTup (tCons (tC (V.str "bring")) (tCons (tC (V.bl true)) (tCons (tC (V.bl true)) tNil)))) tNil)) (tOp (rI0 fun i j => V.int (i + j)) (tC (V.int 1)) (tVar 2))) (tLst (tCons (tTup (tCons (tC (V.str "code")) (tCons (tVar 5) (tCons (tC (V.bl true)) (tCons (tC (V.bl true)) tNil))))) (tCons (tTup (tCons (tC (V.str "code")) (tCons (tVar 6) (tCons (tC (V.bl true)) (tCons (tC (V.bl true)) tNil))))) tNil)))) (gName 7)) (tSeq (tAsg (tOp rCat (tCall (sp_law_each K) [V.int 1] C8.E0 (tCons (tC (V.str "two")) (tCons (tC (V.int 1)) (tCons (tOp (rI0 fun i j => V.int (i + j)) (tVar 2) (tC (V.int 1))) tNil)))) (tLst (tCons (tTup (tCons (tC (V.str "wrong")) (tCons (tOp (rI0 fun i j => V.int (i + j)) (tVar 2) (tC (V.int 1))) tNil))) (tCons (tTup (tCons (tC (V.str "empty")) (tCons (tOp (rI0 fun i j => V.int (i + j)) (tVar 2) (tC (V.int 2))) tNil))) tNil)))) (gName 8)) (tRet (tTup (tCons (tOp rCat (tVar 7) (tLst (tCons (tTup (tCons (tC (V.str "code")) (tCons (tVar 5) (tCons (tC (V.bl true)) (tCons (tC (V.bl true)) tNil))))) tNil))) (tCons (tVar 8) tNil)))))) { nx := fun x H' => Q V.non H', rt := Q } [some (.ref a), some (.ref R), some (.int (m : Int)), some (.int 0), some (.ref tc), some (.int o), some (.int u), none, none] H5 := by
        intro H5 o u w5 hR5 rl5 ho hu2 hne
        refine ⟨by show 3 ≤ sizeLine; decide, fun t1 ht1 => ⟨by show 1 ≤ sizeLine; decide, fun l1 hl1 => ⟨_, rfl, _, _, rfl, rfl, l1, _, _, rfl, rfl, upd_same, by omega, by omega, rep_size (by omega), fun l2 hl2 => ?_⟩⟩⟩
        have y1 := same_new (o := .tup [.str "bring", .bl true, .bl true]) ht1
        have y2 := same_new (o := .lst [.ref t1]) hl1
        have y3 := same_new (o := .lst (List.replicate (1 + (m : Int)).toNat [V.ref t1]).flatten) hl2
        refine ⟨_, rfl, by show 4 ≤ sizeLine; decide, fun t2 ht2 => ⟨_, rfl, by show 4 ≤ sizeLine; decide, fun t3 ht3 => ⟨by show 2 ≤ sizeLine; decide, fun l3 hl3 => ?_⟩⟩⟩
        have y4 := same_new (o := .tup [.str "code", .int o, .bl true, .bl true]) ht2
        have y5 := same_new (o := .tup [.str "code", .int u, .bl true, .bl true]) ht3
        have y6 := same_new (o := .lst [.ref t2, .ref t3]) hl3
        refine ⟨l2, l3, _, _, rfl, rfl, (y4.trans (y5.trans y6)) _ _ upd_same, upd_same, by rw [rep_len]; exact Nat.le_trans (show (1 + (m : Int)).toNat + 2 ≤ 100 by omega) (by decide), fun A1 hA1 => ?_⟩
        have y7 := same_new (o := .lst ((List.replicate (1 + (m : Int)).toNat [V.ref t1]).flatten ++ [V.ref t2, .ref t3])) hA1
        refine ⟨_, rfl, _, _, rfl, rfl, ?_⟩
        refine ⟨"two", 1, m, 1, _, rfl, rg1i (by omega) (by omega) (by omega), by omega, fun H6 F1 us s6 hFn hF hfl => ?_⟩
        have hus : us.length = m := by
          rw [hfl.length]
          unfold eachL
          rw [List.length_map, List.length_range]
        refine ⟨_, rfl, _, _, rfl, rfl, by show 2 ≤ sizeLine; decide, fun t4 ht4 => ⟨_, rfl, _, _, rfl, rfl, by show 2 ≤ sizeLine; decide, fun t5 ht5 => ⟨by show 2 ≤ sizeLine; decide, fun l4 hl4 => ?_⟩⟩⟩
        have x1 := same_new (o := .tup [.str "wrong", .int ((m : Int) + 1)]) ht4
        have x2 := same_new (o := .tup [.str "empty", .int ((m : Int) + 2)]) ht5
        have x3 := same_new (o := .lst [.ref t4, .ref t5]) hl4
        refine ⟨F1, l4, _, _, rfl, rfl, (x1.trans (x2.trans x3)) _ _ hF, upd_same, by rw [List.length_map, hus]; exact Nat.le_trans (show m + 2 ≤ 100 by omega) (by decide), fun Fd hFd => ?_⟩
        have x4 := same_new (o := .lst (us.map V.ref ++ [.ref t4, .ref t5])) hFd
        refine ⟨_, rfl, _, rfl, by show 4 ≤ sizeLine; decide, fun t6 ht6 => ⟨by show 1 ≤ sizeLine; decide, fun l5 hl5 => ?_⟩⟩
        have x5 := same_new (o := .tup [.str "code", .int o, .bl true, .bl true]) ht6
        have x6 := same_new (o := .lst [.ref t6]) hl5
        refine ⟨A1, l5, _, _, rfl, rfl, (s6.trans (x1.trans (x2.trans (x3.trans (x4.trans (x5.trans x6)))))) _ _ upd_same, upd_same, by rw [List.length_append, rep_len]; exact Nat.le_trans (show (1 + (m : Int)).toNat + 2 + 1 ≤ 100 by omega) (by decide), fun A hA => ⟨_, rfl, by show 2 ≤ sizeLine; decide, fun t ht => ?_⟩⟩
        have x7 := same_new (o := .lst ((List.replicate (1 + (m : Int)).toNat [V.ref t1]).flatten ++ [V.ref t2, .ref t3] ++ [.ref t6])) hA
        have x8 := same_new (o := .tup [.ref A, .ref Fd]) ht
        have z6 := x6.trans (x7.trans x8)
        have z5 := x5.trans z6
        have z4 := x4.trans z5
        have z3 := x3.trans z4
        have z2 := x2.trans z3
        have z1 := x1.trans z2
        have zs := s6.trans z1
        have v5 := y6.trans (y7.trans zs)
        have v4 := y5.trans v5
        have v1 := y2.trans (y3.trans (y4.trans v4))
        have st := y1.trans v1
        have w6 := w5.same st
        have db : DeedAt K _ (.ref t1) (.bring true true) := ⟨t1, rfl, SqT.of (v1 _ _ upd_same)⟩
        have d2 : DeedAt K _ (.ref t2) (.code o true true) := ⟨t2, rfl, SqT.of (v4 _ _ upd_same)⟩
        have d3 : DeedAt K _ (.ref t3) (.code u true true) := ⟨t3, rfl, SqT.of (v5 _ _ upd_same)⟩
        have d6 : DeedAt K _ (.ref t6) (.code o true true) := ⟨t6, rfl, SqT.of (z6 _ _ upd_same)⟩
        have dd := paired_app (paired_app (dd_rep' db (show 1 + (m : Int) = ((1 + m : Nat) : Int) by omega)) (.cons d2 (.cons d3 .nil))) (.cons d6 .nil)
        have hlen : ((List.replicate (1 + m) (Deed.bring true true) ++ [Deed.code o true true, Deed.code u true true]) ++ [Deed.code o true true]).length ≤ 100 := by
          rw [List.length_append, List.length_append, List.length_replicate]
          show 1 + m + 2 + 1 ≤ 100
          omega
        refine q _ t ⟨A, Fd, _, us ++ [t4, t5], eO, _, _, _, w6.b, upd_same, st _ _ hR5, (KT.of st).rules rl5, hg, x8 _ _ upd_same, dd, ?_, hlen, z5 _ _ (by rw [upd_same, List.map_append]; rfl), paired_app ((KT.of z1).fits hfl) (.cons (show FItAt _ t4 (("wrong" : Str), m + 1) from z2 _ _ upd_same) (.cons (show FItAt _ t5 (("empty" : Str), m + 2) from z3 _ _ upd_same) .nil)), fun d => open0 d m hm1 o u ho hu2 hne⟩
        rw [List.append_assoc] at hlen ⊢
        refine playable_c (n := 1 + m) hlen (fun d hd p t s e => by rw [(List.mem_replicate.mp hd).2] at e; cases e) ?_ (fun d hd p t s e => ?_)
        · unfold brs
          rw [List.countP_replicate]
          exact Nat.le_of_eq rfl
        · simp only [List.cons_append, List.nil_append, List.mem_cons, List.not_mem_nil, or_false] at hd
          rcases hd with rfl | rfl | rfl
          · cases e; exact ho
          · cases e; exact hu2
          · cases e; exact ho
      refine ⟨_, rfl, _, rfl, a, n + 1, (m : Int), rfl, s4, lt100 (by omega), by omega, Int.lt_of_le_of_lt (show (m : Int) ≤ 20 by omega) (by decide), fun H5 k5 b5 s5 k50 k51 => ⟨_, _, rfl, rfl, by show 2 ≤ sizeLine; decide, fun u1 hu1 => ?_⟩⟩
      have w5 := w4.draw b5 s4
      have hR5 := rawS b5 s4 hR4 (refs_no _)
      have rl5 := (KT.draw b5 s4).rules rl4
      have y1 := same_new (o := .tup [.int 1, .int (2 + k5)]) hu1
      refine ⟨_, rfl, _, _, rfl, rfl, by show 2 ≤ sizeLine; decide, fun u2 hu2 => ⟨by show 2 ≤ sizeLine; decide, fun lu hlu => ?_⟩⟩
      have y2 := same_new (o := .tup [.int (1 + (m : Int)), .int 1]) hu2
      have y3 := same_new (o := .lst ([u1, u2].map V.ref)) hlu
      have yy := y1.trans (y2.trans y3)
      have s6 := s5.same yy
      refine ⟨_, rfl, a, n + 2, 2, rfl, s6, lt100 (by omega), by decide, by decide, fun H6 k6 b6 s7 k60 k61 => ?_⟩
      have w6 := (w5.same yy).draw b6 s6
      have kt6 := KT.draw b6 s6
      have hR6 := rawS b6 s6 (yy _ _ hR5) (refs_no _)
      have rl6 := kt6.rules ((KT.of yy).rules rl5)
      have hlu6 := rawS (o := .lst ([u1, u2].map V.ref)) b6 s6 upd_same (refs_no _)
      have hu16 := kt6 u1 _ (fun l z => by cases z) ((y2.trans y3) _ _ upd_same)
      have hu26 := kt6 u2 _ (fun l z => by cases z) (y3 _ _ upd_same)
      obtain rfl | rfl : k6 = 0 ∨ k6 = 1 := by omega
      · refine ⟨lu, _, _, _, rfl, rfl, SqL.of hlu6, rfl, ?_⟩
        refine ⟨_, _, rfl, SqT.of hu16, rfl, ?_⟩
        exact ⟨_, _, rfl, _, _, rfl, rfl, body _ 1 (2 + k5) w6 hR6 rl6 (by omega) (by omega) (by omega)⟩
      · refine ⟨lu, _, _, _, rfl, rfl, SqL.of hlu6, rfl, ?_⟩
        refine ⟨_, _, rfl, SqT.of hu26, rfl, ?_⟩
        exact ⟨_, _, rfl, _, _, rfl, rfl, body _ (1 + (m : Int)) 1 w6 hR6 rl6 (by omega) (by omega) (by omega)⟩
    refine ⟨_, rfl, rfl, _, rfl, ifEq (fun c => ?_) (fun c1 => ?_)⟩
    · subst c
      refine ⟨by show 3 ≤ sizeLine; decide, fun t1 ht1 => ⟨by show 1 ≤ sizeLine; decide, fun l1 hl1 => ⟨by show 4 ≤ sizeLine; decide, fun t2 ht2 => ⟨by show 1 ≤ sizeLine; decide, fun l2 hl2 => ⟨_, rfl, l2, _, _, rfl, rfl, upd_same, by omega, by omega, rep_size (by omega), fun l3 hl3 => ?_⟩⟩⟩⟩⟩
      have y1 := same_new (o := .tup [.str "bring", .bl true, .bl true]) ht1
      have y2 := same_new (o := .lst [.ref t1]) hl1
      have y3 := same_new (o := .tup [.str "code", .int 1, .bl false, .bl true]) ht2
      have y4 := same_new (o := .lst [.ref t2]) hl2
      have y5 := same_new (o := .lst (List.replicate (m : Int).toNat [V.ref t2]).flatten) hl3
      refine ⟨l1, l3, _, _, rfl, rfl, y5 _ _ (y4 _ _ (y3 _ _ upd_same)), upd_same, by rw [rep_len]; exact Nat.le_trans (show 1 + (m : Int).toNat ≤ 100 by omega) (by decide), fun l4 hl4 => ?_⟩
      have y6 := same_new (o := .lst ([V.ref t1] ++ (List.replicate (m : Int).toNat [V.ref t2]).flatten)) hl4
      refine ⟨_, rfl, by show 1 ≤ sizeLine; decide, fun l5 hl5 => ⟨_, rfl, _, _, rfl, rfl, l5, _, _, rfl, rfl, upd_same, by omega, by omega, rep_size (by omega), fun l6 hl6 => ?_⟩⟩
      have y7 := same_new (o := .lst [V.ref tc]) hl5
      have y8 := same_new (o := .lst (List.replicate (1 + (m : Int)).toNat [V.ref tc]).flatten) hl6
      refine ⟨l4, l6, _, _, rfl, rfl, y8 _ _ (y7 _ _ upd_same), upd_same, by rw [List.length_append, rep_len, rep_len]; exact Nat.le_trans (show 1 + (m : Int).toNat + (1 + (m : Int)).toNat ≤ 100 by omega) (by decide), fun A hA => ⟨Nat.zero_le _, fun Fd hFd => ⟨by show 2 ≤ sizeLine; decide, fun t ht => ?_⟩⟩⟩
      have y9 := same_new (o := .lst ([V.ref t1] ++ (List.replicate (m : Int).toNat [V.ref t2]).flatten ++ (List.replicate (1 + (m : Int)).toNat [V.ref tc]).flatten)) hA
      have z1 := same_new (o := .lst []) hFd
      have z2 := same_new (o := .tup [.ref A, .ref Fd]) ht
      have z3 := z1.trans z2
      have x9 := y4.trans (y5.trans (y6.trans (y7.trans (y8.trans (y9.trans z3)))))
      have x7 := y2.trans (y3.trans x9)
      have st := y1.trans x7
      have w6 := w4.same st
      have dd := paired_app (paired_app (.cons (show DeedAt K _ (.ref t1) (.bring true true) from ⟨t1, rfl, SqT.of (x7 _ _ upd_same)⟩) .nil) (dd_rep (show DeedAt K _ (.ref t2) (.code 1 false true) from ⟨t2, rfl, SqT.of (x9 _ _ upd_same)⟩) m)) (dd_rep' (dc _ st) (show 1 + (m : Int) = ((1 + m : Nat) : Int) by omega))
      have hlen : ([Deed.bring true true] ++ List.replicate m (Deed.code 1 false true) ++ List.replicate (1 + m) (Deed.code 1 true true)).length ≤ 100 := by
        rw [List.length_append, List.length_append, List.length_replicate, List.length_replicate]
        show 1 + m + (1 + m) ≤ 100
        omega
      refine q _ t ⟨A, Fd, _, [], eO, _, _, [], w6.b, upd_same, st _ _ hR4, (KT.of st).rules rl4, hg, z3 _ _ upd_same, dd, playable_1 rfl hlen fun d hd p t s e => ?_, hlen, z2 _ _ upd_same, .nil, fun d => open1 d m⟩
      rcases List.mem_append.mp hd with hd | hd
      · rcases List.mem_append.mp hd with hd | hd
        · rw [List.mem_singleton.mp hd] at e; cases e
        · exact rep_code hd p t s e
      · exact rep_code hd p t s e
    refine ⟨_, rfl, rfl, _, rfl, ifEq (fun c => ?_) (fun c2 => ?_)⟩
    · subst c
      refine ⟨by show 3 ≤ sizeLine; decide, fun t1 ht1 => ⟨by show 1 ≤ sizeLine; decide, fun l1 hl1 => ⟨_, rfl, by show 1 ≤ sizeLine; decide, fun l2 hl2 => ⟨_, rfl, l2, _, _, rfl, rfl, upd_same, by omega, by omega, rep_size (by omega), fun l3 hl3 => ?_⟩⟩⟩⟩
      have y1 := same_new (o := .tup [.str "bring", .bl false, .bl true]) ht1
      have y2 := same_new (o := .lst [.ref t1]) hl1
      have y3 := same_new (o := .lst [.ref tc]) hl2
      have y4 := same_new (o := .lst (List.replicate (m : Int).toNat [V.ref tc]).flatten) hl3
      refine ⟨l1, l3, _, _, rfl, rfl, y4 _ _ (y3 _ _ upd_same), upd_same, by rw [rep_len]; exact Nat.le_trans (show 1 + (m : Int).toNat ≤ 100 by omega) (by decide), fun A hA => ?_⟩
      have y5 := same_new (o := .lst ([V.ref t1] ++ (List.replicate (m : Int).toNat [V.ref tc]).flatten)) hA
      refine ⟨_, rfl, _, _, rfl, rfl, ?_⟩
      refine ⟨"empty", 1, m, 1, _, rfl, rg1i (by omega) (by omega) (by omega), by omega, fun H5 Fd us s5 hFn hF hfl => ⟨by show 2 ≤ sizeLine; decide, fun t ht => ?_⟩⟩
      have y6 := same_new (o := .tup [.ref A, .ref Fd]) ht
      have st := y1.trans (y2.trans (y3.trans (y4.trans y5)))
      have d1 : DeedAt K _ (.ref t1) (.bring false true) := ⟨t1, rfl, SqT.of ((y2.trans (y3.trans (y4.trans y5))) _ _ upd_same)⟩
      have dd := paired_app (.cons d1 .nil) (dd_rep (dc _ st) m)
      have s6 := s5.trans y6
      have w6 := (w4.same st).same s6
      refine q _ t ⟨A, Fd, _, us, eO, _, [Deed.bring false true] ++ List.replicate m (Deed.code 1 true true), _, w6.b, upd_same, (st.trans s6) _ _ hR4, (KT.of (st.trans s6)).rules rl4, hg, s6 _ _ upd_same, DeedsAt.same s6 dd, ?_, ?_, y6 _ _ hF, (KT.of y6).fits hfl, fun d => open2 d m⟩
      · refine playable_1 rfl (by rw [List.length_append, List.length_replicate]; show 1 + m ≤ 100; omega) fun d hd p t s e => ?_
        rcases List.mem_append.mp hd with hd | hd
        · rw [List.mem_singleton.mp hd] at e; cases e
        · exact rep_code hd p t s e
      · rw [List.length_append, List.length_replicate]; show 1 + m ≤ 100; omega
    refine ⟨_, rfl, rfl, _, rfl, ifEq (fun c => ?_) (fun c3 => ?_)⟩
    · subst c
      refine ⟨by show 1 ≤ sizeLine; decide, fun tl htl => ⟨_, rfl, ?_⟩⟩
      have v1 := same_new (o := .tup [.str "lock"]) htl
      refine ⟨R, _, 3, 3, rfl, rfl, v1 _ _ hR4, rfl, ?_⟩
      have kv := KT.set (o := .lst (([q0, tr, q2, q3, q4, q5, q6, q7].map V.ref).set 3 (.ref tl))) (v1 _ _ hR4)
      have w5 := (w4.same v1).setR (o := .lst (([q0, tr, q2, q3, q4, q5, q6, q7].map V.ref).set 3 (.ref tl))) (v1 _ _ hR4)
      have hR5 : upd (upd H4 tl (.tup [.str "lock"])) R (.lst (([q0, tr, q2, q3, q4, q5, q6, q7].map V.ref).set 3 (.ref tl))) R = some (.lst ([q0, tr, q2, tl, q4, q5, q6, q7].map V.ref)) := upd_same
      have rl5 : Paired (RuleAt K _) [q0, tr, q2, tl, q4, q5, q6, q7] eO3 := paired_set 3 (((KT.of v1).trans kv).rules rl4) (kv.tup (show RuleAt K _ tl ["lock"] from SqT.of upd_same))
      have hc5 := kv _ _ (fun l z => by cases z) (v1 _ _ hc4)
      have hg5 : GoodB eO3 := good8 rfl (by decide)
      show Ends.nx _ [some (.ref a), some (.ref R), some (.int (m : Int)), some (.int 3), some (.ref tc), none, none, none, none] (upd (upd H4 tl (.tup [.str "lock"])) R (.lst (([q0, tr, q2, q3, q4, q5, q6, q7].map V.ref).set 3 (.ref tl))))
      generalize upd (upd H4 tl (.tup [.str "lock"])) R (.lst (([q0, tr, q2, q3, q4, q5, q6, q7].map V.ref).set 3 (.ref tl))) = H5 at w5 hR5 rl5 hc5
      refine ⟨by show 3 ≤ sizeLine; decide, fun t1 ht1 => ⟨by show 1 ≤ sizeLine; decide, fun l1 hl1 => ⟨_, rfl, by show 1 ≤ sizeLine; decide, fun l2 hl2 => ⟨_, rfl, l2, _, _, rfl, rfl, upd_same, by omega, by omega, rep_size (by omega), fun l3 hl3 => ?_⟩⟩⟩⟩
      have y1 := same_new (o := .tup [.str "bring", .bl true, .bl true]) ht1
      have y2 := same_new (o := .lst [.ref t1]) hl1
      have y3 := same_new (o := .lst [.ref tc]) hl2
      have y4 := same_new (o := .lst (List.replicate (m : Int).toNat [V.ref tc]).flatten) hl3
      refine ⟨l1, l3, _, _, rfl, rfl, y4 _ _ (y3 _ _ upd_same), upd_same, by rw [rep_len]; exact Nat.le_trans (show 1 + (m : Int).toNat ≤ 100 by omega) (by decide), fun A hA => ⟨Nat.zero_le _, fun Fd hFd => ⟨by show 2 ≤ sizeLine; decide, fun t ht => ?_⟩⟩⟩
      have y5 := same_new (o := .lst ([V.ref t1] ++ (List.replicate (m : Int).toNat [V.ref tc]).flatten)) hA
      have z1 := same_new (o := .lst []) hFd
      have z2 := same_new (o := .tup [.ref A, .ref Fd]) ht
      have z3 := z1.trans z2
      have x7 := y2.trans (y3.trans (y4.trans (y5.trans z3)))
      have st := y1.trans x7
      have w6 := w5.same st
      have dd := paired_app (.cons (show DeedAt K _ (.ref t1) (.bring true true) from ⟨t1, rfl, SqT.of (x7 _ _ upd_same)⟩) .nil) (dd_rep (show DeedAt K _ (.ref tc) (.code 1 true true) from ⟨tc, rfl, SqT.of (st _ _ hc5)⟩) m)
      have hlen : ([Deed.bring true true] ++ List.replicate m (Deed.code 1 true true)).length ≤ 100 := by
        rw [List.length_append, List.length_replicate]
        show 1 + m ≤ 100
        omega
      refine q _ t ⟨A, Fd, _, [], eO3, _, _, [], w6.b, upd_same, st _ _ hR5, (KT.of st).rules rl5, hg5, z3 _ _ upd_same, dd, playable_1 rfl hlen fun d hd p t s e => ?_, hlen, z2 _ _ upd_same, .nil, fun d => open3 d m⟩
      rcases List.mem_append.mp hd with hd | hd
      · rw [List.mem_singleton.mp hd] at e; cases e
      · exact rep_code hd p t s e
    refine ⟨by show 3 ≤ sizeLine; decide, fun t1 ht1 => ⟨by show 3 ≤ sizeLine; decide, fun t2 ht2 => ⟨by show 2 ≤ sizeLine; decide, fun l1 hl1 => ⟨_, rfl, by show 1 ≤ sizeLine; decide, fun l2 hl2 => ⟨_, rfl, _, _, rfl, rfl, l2, _, _, rfl, rfl, upd_same, by omega, by omega, rep_size (by omega), fun l3 hl3 => ?_⟩⟩⟩⟩⟩
    have y0 := same_new (o := .tup [.str "bring", .bl false, .bl true]) ht1
    have y1 := same_new (o := .tup [.str "bring", .bl true, .bl true]) ht2
    have y2 := same_new (o := .lst [.ref t1, .ref t2]) hl1
    have y3 := same_new (o := .lst [.ref tc]) hl2
    have y4 := same_new (o := .lst (List.replicate (1 + (m : Int)).toNat [V.ref tc]).flatten) hl3
    refine ⟨l1, l3, _, _, rfl, rfl, y4 _ _ (y3 _ _ upd_same), upd_same, by rw [rep_len]; exact Nat.le_trans (show 2 + (1 + (m : Int)).toNat ≤ 100 by omega) (by decide), fun A hA => ?_⟩
    have y5 := same_new (o := .lst ([V.ref t1, .ref t2] ++ (List.replicate (1 + (m : Int)).toNat [V.ref tc]).flatten)) hA
    refine ⟨_, rfl, by show 2 ≤ sizeLine; decide, fun t3 ht3 => ⟨by show 1 ≤ sizeLine; decide, fun l5 hl5 => ?_⟩⟩
    have y6 := same_new (o := .tup [.str "wrong", .int 2]) ht3
    have y7 := same_new (o := .lst [.ref t3]) hl5
    refine ⟨_, rfl, _, _, rfl, rfl, ?_⟩
    refine ⟨"empty", 2, m + 1, 1, _, rfl, rg1i (by omega) (by omega) (by omega), by omega, fun H5 F2 us s5 hFn hF hfl => ?_⟩
    refine ⟨l5, F2, _, _, rfl, rfl, s5 _ _ upd_same, hF, by rw [List.length_map, hfl.length]; unfold eachL; rw [List.length_map, List.length_range]; exact Nat.le_trans (show 1 + (m + 1) ≤ 100 by omega) (by decide), fun Fd hFd => ⟨by show 2 ≤ sizeLine; decide, fun t ht => ?_⟩⟩
    have z1 := same_new (o := .lst ([V.ref t3] ++ us.map V.ref)) hFd
    have z2 := same_new (o := .tup [.ref A, .ref Fd]) ht
    have z3 := z1.trans z2
    have x6 := y7.trans (s5.trans z3)
    have x5 := y6.trans x6
    have x2 := y2.trans (y3.trans (y4.trans (y5.trans x5)))
    have x1 := y1.trans x2
    have st := y0.trans x1
    have w6 := w4.same st
    have dd := paired_app (.cons (show DeedAt K _ (.ref t1) (.bring false true) from ⟨t1, rfl, SqT.of (x1 _ _ upd_same)⟩) (.cons (show DeedAt K _ (.ref t2) (.bring true true) from ⟨t2, rfl, SqT.of (x2 _ _ upd_same)⟩) .nil)) (dd_rep' (dc _ st) (show 1 + (m : Int) = ((1 + m : Nat) : Int) by omega))
    have hlen : ([Deed.bring false true, .bring true true] ++ List.replicate (1 + m) (Deed.code 1 true true)).length ≤ 100 := by
      rw [List.length_append, List.length_replicate]
      show 2 + (1 + m) ≤ 100
      omega
    refine q _ t ⟨A, Fd, _, t3 :: us, eO, _, _, _, w6.b, upd_same, st _ _ hR4, (KT.of st).rules rl4, hg, x5 _ _ upd_same, dd, playable_1 rfl hlen fun d hd p t s e => ?_, hlen, z2 _ _ upd_same, paired_app (.cons (show FItAt _ t3 (("wrong" : Str), 2) from x6 _ _ upd_same) .nil) ((KT.of z3).fits hfl), fun d => open4 d m⟩
    rcases List.mem_append.mp hd with hd | hd
    · rcases List.mem_cons.mp hd with hd | hd
      · rw [hd] at e; cases e
      · rw [List.mem_singleton.mp hd] at e; cases e
    · exact rep_code hd p t s e
theorem c_law_opened (T : Txt K mg) : C8.Cal P w K mg base 2 "_law_opened" (sp_law_opened K) [] := by
  obtain ⟨fd, F⟩ := T.f_law_opened
  exact ⟨_, fd, _, _, ok_law_opened T F, T.g_law_opened, F.kp, F.bindsN (fun _ _ _ _ _ _ us hl => match us, hl with | [_, _, _], _ => rfl), .nil⟩
end
end K29

namespace K29
open PySem PySem.Spec PyProof.Rows L2 My StX
section
variable {P : Program} {w : World} {K : PySem.W.Frag} {mg : Str → Option Value} {base : Heap}
def sp_law_refused (K : PySem.W.Frag) : Sp := fun vs H Q _ => ∃ (a R : Addr) (n m : Nat) (qs : List Addr), vs = [.ref a, .ref R, .int (m : Int)] ∧ 1 ≤ m ∧ m ≤ 20 ∧ SpringAt H a n ∧ n ≤ 400 ∧ H R = some (.lst (qs.map V.ref)) ∧ Paired (RuleAt K H) qs e8 ∧
  ∀ H' t, Got29 K a R H H' t → Q (.ref t) H'
set_option maxHeartbeats 2000000 in
theorem ok_law_refused (T : Txt K mg) {fd : FuncData} (F : FunD K d_law_refused.name d_law_refused.qual d_law_refused.params d_law_refused.body d_law_refused.scope (d_law_refused.dvs K) (d_law_refused.kws K) (He.fAd K d_law_refused.at_) fd) : FnOk P w K mg base C8.CX0 2 (He.fAd K d_law_refused.at_) fd ["spring", "rules", "many"] (sp_law_refused K) := by
  have c3_law_each := c3_law_each (P := P) (w := w) (base := base) T
  have c_law_drop := c_law_drop (P := P) (w := w) (base := base) T
  refine F.ok sc_law_refused (fun vs H Q E h => ?_) (fun cdv A outer s H vs Q E hr h => ?_)
  · obtain ⟨a, R, n, m, qs, rfl, _⟩ := h
    rfl
  · have hu := L2.hu_of hr
    obtain ⟨a, R, n, m, qs, rfl, hm1, hm2, hs, hn, hR, hq, q⟩ := h
    refine ⟨_, (PSs.nox ((pss_cons (ps_par (i := 3) (j := 4) (by rfl) sc_law_refused.nd rfl rfl (by decide) rfl rfl (pa_cons (C8.pe_c c_law_drop hr (by decide) rfl (pa_cons (pv 0) (pa_cons pe_int pa_nil))) (pa_cons (pe_tup (pa_cons pe_str (pa_cons pe_int (pa_cons (pe_cmpR op_eq (C8.pe_c c_law_drop hr (by decide) rfl (pa_cons (pv 0) (pa_cons pe_int pa_nil))) pe_int (nomark _)) (pa_cons pe_bl pa_nil))))) pa_nil)) (by rfl))
  (pss_cons (ps_if (pt_cmpR op_eq (pv 3) pe_int (nomark _))
  (pss_cons (ps_set (i := 5) sc_law_refused.nd rfl (by first | exact Or.inl rfl | exact Or.inr rfl) (pe_cmpR op_eq (C8.pe_c c_law_drop hr (by decide) rfl (pa_cons (pv 0) (pa_cons pe_int pa_nil))) pe_int (nomark _)))
  (pss_cons (ps_asg (pe_ix (My.ix_listK (K := K) rfl) (pe_lst (pa_cons (pe_tup (pa_cons pe_str pa_nil)) (pa_cons (pe_tup (pa_cons pe_str (pa_cons pe_str (pa_cons pe_str pa_nil)))) pa_nil))) (pe_callTy call_int1 (by rfl) T.int (by decide +kernel) (pa_cons (pv 5) pa_nil)) (fun _ _ => rfl)) (pg_sub (pv 1) pe_int set_list))
  (pss_one (ps_ret (pe_tup (pa_cons (pe_op op_cat (pe_lst (pa_cons (pe_tup (pa_cons pe_str (pa_cons pe_bl (pa_cons pe_bl pa_nil)))) pa_nil)) (pe_op op_rep (pe_lst (pa_cons (pv 4) pa_nil)) (pv 2))) (pa_cons (C8.pe_c c3_law_each hr (by decide) rfl (pa_cons pe_str (pa_cons pe_int (pa_cons (pe_op op_add pe_int (pe_op op_mulW (pv 2) (pe_callTy call_int1 (by rfl) T.int (by decide +kernel) (pa_cons (pv 5) pa_nil)))) pa_nil)))) pa_nil)))))))
  pss_nil)
  (pss_cons (ps_if (pt_cmpR op_eq (pv 3) pe_int (nomark _))
  (pss_cons (ps_asg (pe_tup (pa_cons pe_str (pa_cons pe_str (pa_cons pe_str pa_nil)))) (pg_sub (pv 1) pe_int set_list))
  (pss_one (ps_ret (pe_tup (pa_cons (pe_op op_cat (pe_lst (pa_cons (pe_tup (pa_cons pe_str (pa_cons pe_bl (pa_cons pe_bl pa_nil)))) (pa_cons (pe_tup (pa_cons pe_str pa_nil)) pa_nil))) (pe_op op_rep (pe_lst (pa_cons (pv 4) pa_nil)) (pv 2))) (pa_cons (pe_lst (pa_cons (pe_tup (pa_cons pe_str (pa_cons pe_int pa_nil))) pa_nil)) pa_nil))))))
  pss_nil)
  (pss_cons (ps_asg (pe_tup (pa_cons (pe_tup (pa_cons pe_str pa_nil)) (pa_cons (pe_tup (pa_cons pe_str (pa_cons pe_str pa_nil))) pa_nil))) (My.pg_tupK (K := K) (n := 2) rfl rfl (pgs_cons (pg_sub (pv 1) pe_int set_list) (pgs_cons (pg_sub (pv 1) pe_int set_list) pgs_nil))))
  (pss_cons (ps_set (i := 6) sc_law_refused.nd rfl (by first | exact Or.inl rfl | exact Or.inr rfl) (pe_op op_cat (pe_op op_cat (pe_op op_cat (pe_lst (pa_cons (pe_tup (pa_cons pe_str (pa_cons pe_bl (pa_cons pe_bl pa_nil)))) pa_nil)) (pe_op op_rep (pe_lst (pa_cons (pv 4) pa_nil)) (pv 2))) (pe_lst (pa_cons (pe_tup (pa_cons pe_str pa_nil)) pa_nil))) (pe_op op_rep (pe_lst (pa_cons (pv 4) pa_nil)) (pv 2))))
  (pss_one (ps_ret (pe_tup (pa_cons (pv 6) (pa_cons (C8.pe_c c3_law_each hr (by decide) rfl (pa_cons pe_str (pa_cons (pe_op op_add (pv 2) pe_int) (pa_cons (pe_op op_add (pe_op op_mulW pe_int (pv 2)) pe_int) pa_nil)))) pa_nil)))))))))))), ?_⟩
    refine ⟨_, rfl, a, n, 3, rfl, hs, lt100 (by omega), by decide, by decide, fun H0 way b0 s0 k0 k1 => ⟨_, rfl, a, n + 1, 2, rfl, s0, lt100 (by omega), by decide, by decide, fun H1 kk b1 s1 kk0 kk1 => ⟨rfl, by show 4 ≤ sizeLine; decide, fun tc htc => ⟨_, _, rfl, ?_⟩⟩⟩⟩
    generalize decide (V.int kk = V.int 0) = tk at *
    have w1 : W29 a R H H1 := ((W29.refl a R H).draw b0 hs).draw b1 s0
    have hR1 := rawS b1 s0 (rawS b0 hs hR (refs_no _)) (refs_no _)
    have yb := same_new (o := .tup [.str "code", .int 1, .bl tk, .bl true]) htc
    have w2 := w1.same yb
    have s2 := s1.same yb
    have hR2 := yb _ _ hR1
    have hc2 : upd H1 tc (.tup [.str "code", .int 1, .bl tk, .bl true]) tc = some (.tup [.str "code", .int 1, .bl tk, .bl true]) := upd_same
    show Ends.nx _ [some (.ref a), some (.ref R), some (.int (m : Int)), some (.int way), some (.ref tc), none, none] (upd H1 tc (.tup [.str "code", .int 1, .bl tk, .bl true]))
    generalize upd H1 tc (.tup [.str "code", .int 1, .bl tk, .bl true]) = H2 at w2 s2 hR2 hc2
    have hql : qs.length = 8 := hq.length
    obtain ⟨q0, q1, q2, q3, q4, q5, q6, q7, rfl⟩ := len8q hql
    have rl2 := w2.k.rules hq
    refine ⟨_, rfl, rfl, _, rfl, ifEq (fun c => ?_) (fun c0 => ?_)⟩
    · subst c
      refine ⟨_, rfl, a, n + 2, 2, rfl, s2, lt100 (by omega), by decide, by decide, fun H3 ks b3 s3 ks0 ks1 => ⟨rfl, ?_⟩⟩
      have w3 := w2.draw b3 s2
      have kt3 := KT.draw b3 s2
      have hR3 := rawS b3 s2 hR2 (refs_no _)
      have hc3 := kt3 _ _ (fun l z => by cases z) hc2
      have rl3 := kt3.rules rl2
      generalize decide (V.int ks = V.int 0) = se at *
      have body : ∀ (H4 : Hp) (tr : Addr), Same H3 H4 → RuleAt K H4 tr (if se = true then ["full", "code", "void"] else ["full"]) →
          gSub (tVar 1) (tC (V.int 1)) rSetL (V.ref tr) [some (.ref a), some (.ref R), some (.int (m : Int)), some (.int 0), some (.ref tc), some (.bl se), none] H4
            (fun σ H => (tRet (tTup (tCons (tOp rCat (tLst (tCons (tTup (tCons (tC (V.str "bring")) (tCons (tC (V.bl true)) (tCons (tC (V.bl true)) tNil)))) tNil)) (tOp rRep (tLst (tCons (tVar 4) tNil)) (tVar 2))) (tCons (tCall (sp_law_each K) [V.int 1] C8.E0 (tCons (tC (V.str "refused")) (tCons (tC (V.int 1)) (tCons (tOp (rI0 fun i j => V.int (i + j)) (tC (V.int 1)) (tOp (rI CMulW fun i j => V.int (i * j)) (tVar 2) (tCB (fun xs H Q => (∃ i, xs = [V.int i] ∧ Q (V.int i) H) ∨ ∃ k, xs = [V.bl k] ∧ Q (V.int (if k = true then 1 else 0)) H) (tCons (tVar 5) tNil)))) tNil)))) tNil)))) { nx := fun x H' => Q V.non H', rt := Q } σ H) := by
        intro H4 tr s4 hr4
        have hR4 := s4 _ _ hR3
        refine ⟨_, rfl, R, _, 1, 1, rfl, rfl, hR4, rfl, ?_⟩
        have kv := KT.set (o := .lst (([q0, q1, q2, q3, q4, q5, q6, q7].map V.ref).set 1 (.ref tr))) hR4
        have w5 := (w3.same s4).setR (o := .lst (([q0, q1, q2, q3, q4, q5, q6, q7].map V.ref).set 1 (.ref tr))) hR4
        have hR5 : upd H4 R (.lst (([q0, q1, q2, q3, q4, q5, q6, q7].map V.ref).set 1 (.ref tr))) R = some (.lst ([q0, tr, q2, q3, q4, q5, q6, q7].map V.ref)) := upd_same
        have rl5 : Paired (RuleAt K _) [q0, tr, q2, q3, q4, q5, q6, q7] (eR se) := paired_set 1 (((KT.of s4).trans kv).rules rl3) (kv.tup hr4)
        have hc5 := kv _ _ (fun l z => by cases z) (s4 _ _ hc3)
        have hg5 : GoodB (eR se) := by cases se <;> exact good8 rfl (by decide)
        show tRet _ _ [some (.ref a), some (.ref R), some (.int (m : Int)), some (.int 0), some (.ref tc), some (.bl se), none] (upd H4 R (.lst (([q0, q1, q2, q3, q4, q5, q6, q7].map V.ref).set 1 (.ref tr))))
        generalize upd H4 R (.lst (([q0, q1, q2, q3, q4, q5, q6, q7].map V.ref).set 1 (.ref tr))) = H5 at w5 hR5 rl5 hc5
        refine ⟨by show 3 ≤ sizeLine; decide, fun t1 ht1 => ⟨by show 1 ≤ sizeLine; decide, fun l1 hl1 => ⟨_, rfl, by show 1 ≤ sizeLine; decide, fun l2 hl2 => ⟨_, rfl, l2, _, _, rfl, rfl, upd_same, by omega, by omega, rep_size (by omega), fun l3 hl3 => ?_⟩⟩⟩⟩
        have y1 := same_new (o := .tup [.str "bring", .bl true, .bl true]) ht1
        have y2 := same_new (o := .lst [.ref t1]) hl1
        have y3 := same_new (o := .lst [.ref tc]) hl2
        have y4 := same_new (o := .lst (List.replicate (m : Int).toNat [V.ref tc]).flatten) hl3
        refine ⟨l1, l3, _, _, rfl, rfl, y4 _ _ (y3 _ _ upd_same), upd_same, by rw [rep_len]; exact Nat.le_trans (show 1 + (m : Int).toNat ≤ 100 by omega) (by decide), fun A hA => ?_⟩
        have y5 := same_new (o := .lst ([V.ref t1] ++ (List.replicate (m : Int).toNat [V.ref tc]).flatten)) hA
        refine ⟨_, rfl, _, rfl, .inr ⟨se, rfl, _, _, rfl, rfl, wide_mul (a := 10) (b := 10) (Nat.lt_of_le_of_lt (show (m : Int).natAbs ≤ 20 by omega) (by decide)) (by cases se <;> decide) (by decide) (by decide) (by decide), _, _, rfl, rfl, ?_⟩⟩
        refine ⟨"refused", 1, if se = true then m else 0, 1, _, rfl, rg1i (by cases se <;> simp) (by omega) (by split <;> omega), by split <;> omega, fun H6 Fd us s6 hFn hF hfl => ⟨by show 2 ≤ sizeLine; decide, fun t ht => ?_⟩⟩
        have z2 := same_new (o := .tup [.ref A, .ref Fd]) ht
        have z3 := s6.trans z2
        have x7 := y2.trans (y3.trans (y4.trans (y5.trans z3)))
        have st := y1.trans x7
        have w6 := w5.same st
        have dd := paired_app (.cons (show DeedAt K _ (.ref t1) (.bring true true) from ⟨t1, rfl, SqT.of (x7 _ _ upd_same)⟩) .nil) (dd_rep (show DeedAt K _ (.ref tc) (.code 1 tk true) from ⟨tc, rfl, SqT.of (st _ _ hc5)⟩) m)
        have hlen : ([Deed.bring true true] ++ List.replicate m (Deed.code 1 tk true)).length ≤ 100 := by
          rw [List.length_append, List.length_replicate]
          show 1 + m ≤ 100
          omega
        refine q _ t ⟨A, Fd, _, us, eR se, _, _, _, w6.b, upd_same, st _ _ hR5, (KT.of st).rules rl5, hg5, z3 _ _ upd_same, dd, playable_1 rfl hlen fun d hd p t s e => ?_, hlen, z2 _ _ hF, (KT.of z2).fits hfl, fun d => ref0 d m tk se⟩
        rcases List.mem_append.mp hd with hd | hd
        · rw [List.mem_singleton.mp hd] at e; cases e
        · exact rep_code hd p t s e
      refine ⟨by show 1 ≤ sizeLine; decide, fun r1 hr1 => ⟨by show 3 ≤ sizeLine; decide, fun r2 hr2 => ⟨by show 2 ≤ sizeLine; decide, fun lr hlr => ?_⟩⟩⟩
      have y1 := same_new (o := .tup [.str "full"]) hr1
      have y2 := same_new (o := .tup [.str "full", .str "code", .str "void"]) hr2
      have y3 := same_new (o := .lst [.ref r1, .ref r2]) hlr
      refine ⟨_, rfl, .inr ⟨se, rfl, lr, _, _, if se = true then .ref r2 else .ref r1, rfl, rfl, SqL.of upd_same, by cases se <;> rfl, ?_⟩⟩
      cases se
      · exact body _ r1 (y1.trans (y2.trans y3)) (SqT.of ((y2.trans y3) _ _ upd_same))
      · exact body _ r2 (y1.trans (y2.trans y3)) (SqT.of (y3 _ _ upd_same))
    refine ⟨_, rfl, rfl, _, rfl, ifEq (fun c => ?_) (fun c1 => ?_)⟩
    · subst c
      refine ⟨by show 3 ≤ sizeLine; decide, fun tr htr => ⟨_, rfl, ?_⟩⟩
      have v1 := same_new (o := .tup [.str "full", .str "code", .str "void"]) htr
      have hR4 := v1 _ _ hR2
      refine ⟨R, _, 2, 2, rfl, rfl, hR4, rfl, ?_⟩
      have kv := KT.set (o := .lst (([q0, q1, q2, q3, q4, q5, q6, q7].map V.ref).set 2 (.ref tr))) hR4
      have w5 := (w2.same v1).setR (o := .lst (([q0, q1, q2, q3, q4, q5, q6, q7].map V.ref).set 2 (.ref tr))) hR4
      have hR5 : upd (upd H2 tr (.tup [.str "full", .str "code", .str "void"])) R (.lst (([q0, q1, q2, q3, q4, q5, q6, q7].map V.ref).set 2 (.ref tr))) R = some (.lst ([q0, q1, tr, q3, q4, q5, q6, q7].map V.ref)) := upd_same
      have rl5 : Paired (RuleAt K _) [q0, q1, tr, q3, q4, q5, q6, q7] eR1 := paired_set 2 (((KT.of v1).trans kv).rules rl2) (kv.tup (show RuleAt K _ tr ["full", "code", "void"] from SqT.of upd_same))
      have hc5 := kv _ _ (fun l z => by cases z) (v1 _ _ hc2)
      have hg5 : GoodB eR1 := good8 rfl (by decide)
      show Ends.nx _ [some (.ref a), some (.ref R), some (.int (m : Int)), some (.int 1), some (.ref tc), none, none] (upd (upd H2 tr (.tup [.str "full", .str "code", .str "void"])) R (.lst (([q0, q1, q2, q3, q4, q5, q6, q7].map V.ref).set 2 (.ref tr))))
      generalize upd (upd H2 tr (.tup [.str "full", .str "code", .str "void"])) R (.lst (([q0, q1, q2, q3, q4, q5, q6, q7].map V.ref).set 2 (.ref tr))) = H5 at w5 hR5 rl5 hc5
      refine ⟨by show 3 ≤ sizeLine; decide, fun t1 ht1 => ⟨by show 1 ≤ sizeLine; decide, fun t2 ht2 => ⟨by show 2 ≤ sizeLine; decide, fun l1 hl1 => ⟨_, rfl, by show 1 ≤ sizeLine; decide, fun l2 hl2 => ⟨_, rfl, l2, _, _, rfl, rfl, upd_same, by omega, by omega, rep_size (by omega), fun l3 hl3 => ?_⟩⟩⟩⟩⟩
      have y1 := same_new (o := .tup [.str "bring", .bl true, .bl false]) ht1
      have y1b := same_new (o := .tup [.str "pass"]) ht2
      have y2 := same_new (o := .lst [.ref t1, .ref t2]) hl1
      have y3 := same_new (o := .lst [.ref tc]) hl2
      have y4 := same_new (o := .lst (List.replicate (m : Int).toNat [V.ref tc]).flatten) hl3
      refine ⟨l1, l3, _, _, rfl, rfl, y4 _ _ (y3 _ _ upd_same), upd_same, by rw [rep_len]; exact Nat.le_trans (show 2 + (m : Int).toNat ≤ 100 by omega) (by decide), fun A hA => ⟨by show 2 ≤ sizeLine; decide, fun t3 ht3 => ⟨by show 1 ≤ sizeLine; decide, fun Fd hFd => ⟨by show 2 ≤ sizeLine; decide, fun t ht => ?_⟩⟩⟩⟩
      have y5 := same_new (o := .lst ([V.ref t1, .ref t2] ++ (List.replicate (m : Int).toNat [V.ref tc]).flatten)) hA
      have z0 := same_new (o := .tup [.str "wrong", .int 1]) ht3
      have z1 := same_new (o := .lst [.ref t3]) hFd
      have z2 := same_new (o := .tup [.ref A, .ref Fd]) ht
      have z3 := z1.trans z2
      have x7 := y2.trans (y3.trans (y4.trans (y5.trans (z0.trans z3))))
      have x8 := y1b.trans x7
      have st := y1.trans x8
      have w6 := w5.same st
      have dd := paired_app (.cons (show DeedAt K _ (.ref t1) (.bring true false) from ⟨t1, rfl, SqT.of (x8 _ _ upd_same)⟩) (.cons (show DeedAt K _ (.ref t2) .pass from ⟨t2, rfl, SqT.of (x7 _ _ upd_same)⟩) .nil)) (dd_rep (show DeedAt K _ (.ref tc) (.code 1 tk true) from ⟨tc, rfl, SqT.of (st _ _ hc5)⟩) m)
      have hlen : ([Deed.bring true false, Deed.pass] ++ List.replicate m (Deed.code 1 tk true)).length ≤ 100 := by
        rw [List.length_append, List.length_replicate]
        show 2 + m ≤ 100
        omega
      refine q _ t ⟨A, Fd, _, [t3], eR1, _, _, _, w6.b, upd_same, st _ _ hR5, (KT.of st).rules rl5, hg5, (z0.trans z3) _ _ upd_same, dd, playable_1 rfl hlen fun d hd p t s e => ?_, hlen, z2 _ _ upd_same, .cons (show FItAt _ t3 (("wrong" : Str), 1) from z3 _ _ upd_same) .nil, fun d => ref1 d m tk⟩
      rcases List.mem_append.mp hd with hd | hd
      · rcases List.mem_cons.mp hd with hd | hd
        · rw [hd] at e; cases e
        · rw [List.mem_singleton.mp hd] at e; cases e
      · exact rep_code hd p t s e
    refine ⟨by show 1 ≤ sizeLine; decide, fun tr htr => ⟨by show 2 ≤ sizeLine; decide, fun ts hts => ⟨by show 2 ≤ sizeLine; decide, fun tt htt => ?_⟩⟩⟩
    have v1 := same_new (o := .tup [.str "full"]) htr
    have v2 := same_new (o := .tup [.str "code", .str "void"]) hts
    have v3 := same_new (o := .tup [.ref tr, .ref ts]) htt
    have vv := v1.trans (v2.trans v3)
    have hR4 := vv _ _ hR2
    refine ⟨_, _, rfl, SqT.of upd_same, rfl, _, _, rfl, _, rfl, R, _, 0, 0, rfl, rfl, hR4, rfl, ?_⟩
    have hR5 : upd (upd (upd (upd H2 tr (.tup [.str "full"])) ts (.tup [.str "code", .str "void"])) tt (.tup [.ref tr, .ref ts])) R (.lst (([q0, q1, q2, q3, q4, q5, q6, q7].map V.ref).set 0 (.ref tr))) R = some (.lst ([tr, q1, q2, q3, q4, q5, q6, q7].map V.ref)) := upd_same
    refine ⟨_, _, rfl, _, rfl, R, _, 7, 7, rfl, rfl, hR5, rfl, rfl, ?_⟩
    have kv := (KT.set (o := .lst (([q0, q1, q2, q3, q4, q5, q6, q7].map V.ref).set 0 (.ref tr))) hR4).trans (KT.set (o := .lst (([tr, q1, q2, q3, q4, q5, q6, q7].map V.ref).set 7 (.ref ts))) hR5)
    have w5 := ((w2.same vv).setR (o := .lst (([q0, q1, q2, q3, q4, q5, q6, q7].map V.ref).set 0 (.ref tr))) hR4).setR (o := .lst (([tr, q1, q2, q3, q4, q5, q6, q7].map V.ref).set 7 (.ref ts))) hR5
    have hR6 : upd (upd (upd (upd (upd H2 tr (.tup [.str "full"])) ts (.tup [.str "code", .str "void"])) tt (.tup [.ref tr, .ref ts])) R (.lst (([q0, q1, q2, q3, q4, q5, q6, q7].map V.ref).set 0 (.ref tr)))) R (.lst (([tr, q1, q2, q3, q4, q5, q6, q7].map V.ref).set 7 (.ref ts))) R = some (.lst ([tr, q1, q2, q3, q4, q5, q6, ts].map V.ref)) := upd_same
    have hrr : RuleAt K _ tr ["full"] := kv.tup (SqT.of ((v2.trans v3) _ _ upd_same))
    have hss : RuleAt K _ ts ["code", "void"] := kv.tup (SqT.of (v3 _ _ upd_same))
    have rl5 : Paired (RuleAt K _) [tr, q1, q2, q3, q4, q5, q6, ts] eR2 := paired_set 7 (paired_set 0 (((KT.of vv).trans kv).rules rl2) hrr) hss
    have hc5 := kv _ _ (fun l z => by cases z) (vv _ _ hc2)
    have hg5 : GoodB eR2 := good8 rfl (by decide)
    show Ends.nx _ [some (.ref a), some (.ref R), some (.int (m : Int)), some (.int way), some (.ref tc), none, none] (upd (upd (upd (upd (upd H2 tr (.tup [.str "full"])) ts (.tup [.str "code", .str "void"])) tt (.tup [.ref tr, .ref ts])) R (.lst (([q0, q1, q2, q3, q4, q5, q6, q7].map V.ref).set 0 (.ref tr)))) R (.lst (([tr, q1, q2, q3, q4, q5, q6, q7].map V.ref).set 7 (.ref ts))))
    generalize upd (upd (upd (upd (upd H2 tr (.tup [.str "full"])) ts (.tup [.str "code", .str "void"])) tt (.tup [.ref tr, .ref ts])) R (.lst (([q0, q1, q2, q3, q4, q5, q6, q7].map V.ref).set 0 (.ref tr)))) R (.lst (([tr, q1, q2, q3, q4, q5, q6, q7].map V.ref).set 7 (.ref ts))) = H5 at w5 hR6 rl5 hc5
    clear hrr hss kv hR5
    refine ⟨by show 3 ≤ sizeLine; decide, fun t1 ht1 => ⟨by show 1 ≤ sizeLine; decide, fun l1 hl1 => ⟨_, rfl, by show 1 ≤ sizeLine; decide, fun l2 hl2 => ⟨_, rfl, l2, _, _, rfl, rfl, upd_same, by omega, by omega, rep_size (by omega), fun l3 hl3 => ?_⟩⟩⟩⟩
    have y1 := same_new (o := .tup [.str "bring", .bl true, .bl true]) ht1
    have y2 := same_new (o := .lst [.ref t1]) hl1
    have y3 := same_new (o := .lst [.ref tc]) hl2
    have y4 := same_new (o := .lst (List.replicate (m : Int).toNat [V.ref tc]).flatten) hl3
    refine ⟨l1, l3, _, _, rfl, rfl, y4 _ _ (y3 _ _ upd_same), upd_same, by rw [rep_len]; exact Nat.le_trans (show 1 + (m : Int).toNat ≤ 100 by omega) (by decide), fun l4 hl4 => ⟨by show 1 ≤ sizeLine; decide, fun t2 ht2 => ⟨by show 1 ≤ sizeLine; decide, fun l5 hl5 => ?_⟩⟩⟩
    have y5 := same_new (o := .lst ([V.ref t1] ++ (List.replicate (m : Int).toNat [V.ref tc]).flatten)) hl4
    have y6 := same_new (o := .tup [.str "power"]) ht2
    have y7 := same_new (o := .lst [.ref t2]) hl5
    refine ⟨l4, l5, _, _, rfl, rfl, (y6.trans y7) _ _ upd_same, upd_same, by rw [List.length_append, rep_len]; exact Nat.le_trans (show 1 + (m : Int).toNat + 1 ≤ 100 by omega) (by decide), fun l6 hl6 => ⟨_, rfl, by show 1 ≤ sizeLine; decide, fun l7 hl7 => ⟨_, rfl, l7, _, _, rfl, rfl, upd_same, by omega, by omega, rep_size (by omega), fun l8 hl8 => ?_⟩⟩⟩
    have y8 := same_new (o := .lst ([V.ref t1] ++ (List.replicate (m : Int).toNat [V.ref tc]).flatten ++ [.ref t2])) hl6
    have y9 := same_new (o := .lst [.ref tc]) hl7
    have y10 := same_new (o := .lst (List.replicate (m : Int).toNat [V.ref tc]).flatten) hl8
    refine ⟨l6, l8, _, _, rfl, rfl, (y9.trans y10) _ _ upd_same, upd_same, by rw [List.length_append, List.length_append, rep_len]; exact Nat.le_trans (show 1 + (m : Int).toNat + 1 + (m : Int).toNat ≤ 100 by omega) (by decide), fun A hA => ?_⟩
    have y11 := same_new (o := .lst ([V.ref t1] ++ (List.replicate (m : Int).toNat [V.ref tc]).flatten ++ [.ref t2] ++ (List.replicate (m : Int).toNat [V.ref tc]).flatten)) hA
    refine ⟨_, rfl, _, rfl, _, _, rfl, rfl, _, rfl, _, _, rfl, rfl, wide_mul (a := 10) (b := 10) (by decide) (Nat.lt_of_le_of_lt (show (m : Int).natAbs ≤ 20 by omega) (by decide)) (by decide) (by decide) (by decide), _, _, rfl, rfl, ?_⟩
    refine ⟨"refused", m + 2, m, 1, _, rfl, rg1i (by omega) (by omega) (by omega), by omega, fun H6 Fd us s6 hFn hF hfl => ⟨by show 2 ≤ sizeLine; decide, fun t ht => ?_⟩⟩
    have z2 := same_new (o := .tup [.ref A, .ref Fd]) ht
    have z3 := s6.trans z2
    have x7 := y7.trans (y8.trans (y9.trans (y10.trans (y11.trans z3))))
    have x2 := y2.trans (y3.trans (y4.trans (y5.trans (y6.trans x7))))
    have st := y1.trans x2
    have w6 := w5.same st
    have dc : DeedAt K _ (.ref tc) (.code 1 tk true) := ⟨tc, rfl, SqT.of (st _ _ hc5)⟩
    have dd := paired_app (paired_app (paired_app (.cons (show DeedAt K _ (.ref t1) (.bring true true) from ⟨t1, rfl, SqT.of (x2 _ _ upd_same)⟩) .nil) (dd_rep dc m)) (.cons (show DeedAt K _ (.ref t2) .power from ⟨t2, rfl, SqT.of (x7 _ _ upd_same)⟩) .nil)) (dd_rep dc m)
    have hlen : ((([Deed.bring true true] ++ List.replicate m (Deed.code 1 tk true)) ++ [Deed.power]) ++ List.replicate m (Deed.code 1 tk true)).length ≤ 100 := by
      rw [List.length_append, List.length_append, List.length_append, List.length_replicate]
      show 1 + m + 1 + m ≤ 100
      omega
    refine q _ t ⟨A, Fd, _, us, eR2, _, _, _, w6.b, upd_same, st _ _ hR6, (KT.of st).rules rl5, hg5, z3 _ _ upd_same, dd, playable_1 rfl hlen fun d hd p t s e => ?_, hlen, z2 _ _ hF, (KT.of z2).fits hfl, fun d => ref2 d m tk⟩
    rcases List.mem_append.mp hd with hd | hd
    · rcases List.mem_append.mp hd with hd | hd
      · rcases List.mem_append.mp hd with hd | hd
        · rw [List.mem_singleton.mp hd] at e; cases e
        · exact rep_code hd p t s e
      · rw [List.mem_singleton.mp hd] at e; cases e
    · exact rep_code hd p t s e
theorem c_law_refused (T : Txt K mg) : C8.Cal P w K mg base 2 "_law_refused" (sp_law_refused K) [] := by
  obtain ⟨fd, F⟩ := T.f_law_refused
  exact ⟨_, fd, _, _, ok_law_refused T F, T.g_law_refused, F.kp, F.bindsN (fun _ _ _ _ _ _ us hl => match us, hl with | [_, _, _], _ => rfl), .nil⟩
end
end K29

namespace K29
open PySem PySem.Spec PyProof.Rows L2 My StX
theorem sqS {K : PySem.W.Frag} {H H1 H2 : Hp} {a p : Addr} {xs : List V} (h : SqL K H a xs) (hp : H p = none) (s : Same H H1) (b : But [p] H1 H2) : SqL K H2 a xs := by
  rcases h with (h | ⟨o, h⟩) | h
  · exact .inl (.inl (b _ _ (by simpa using ne_of_none h hp) (s _ _ h)))
  · exact .inl (.inr ⟨o, b _ _ (by simpa using ne_of_none h hp) (s _ _ h)⟩)
  · exact .inr h
section
variable {P : Program} {w : World} {K : PySem.W.Frag} {mg : Str → Option Value} {base : Heap}
def sp_law_right (K : PySem.W.Frag) : Sp := fun vs H Q _ => ∃ (a : Addr), vs = [.ref a] ∧ SpringAt H a 1 ∧ ∀ H', But [a] H H' → Q (.bl true) H'
set_option maxHeartbeats 2000000 in
theorem ok_law_right (T : Txt K mg) {fd : FuncData} (F : FunD K d_law_right.name d_law_right.qual d_law_right.params d_law_right.body d_law_right.scope (d_law_right.dvs K) (d_law_right.kws K) (He.fAd K d_law_right.at_) fd) : FnOk P w K mg base C8.CX0 10 (He.fAd K d_law_right.at_) fd ["spring"] (sp_law_right K) := by
  have c_law_wrong := c_law_wrong (P := P) (w := w) (base := base) T
  have c_law_made := c_law_made (P := P) (w := w) (base := base) T
  have c_law_laid := c_law_laid (P := P) (w := w) (base := base) T
  have c_law_opened := c_law_opened (P := P) (w := w) (base := base) T
  have c_law_refused := c_law_refused (P := P) (w := w) (base := base) T
  have c_law_drop := c_law_drop (P := P) (w := w) (base := base) T
  refine F.ok sc_law_right (fun vs H Q E h => ?_) (fun cdv A outer s H vs Q E hr h => ?_)
  · obtain ⟨a, rfl, _⟩ := h
    rfl
  · have hu := L2.hu_of hr
    obtain ⟨a, rfl, hs, q⟩ := h
    refine ⟨_, (PSs.nox ((pss_cons (ps_par (i := 1) (j := 2) (by rfl) sc_law_right.nd rfl rfl (by decide) rfl rfl (pa_cons (pe_lst (pa_cons (pe_tup pa_nil) (pa_cons (pe_tup pa_nil) (pa_cons (pe_tup pa_nil) (pa_cons (pe_tup pa_nil) (pa_cons (pe_tup pa_nil) (pa_cons (pe_tup pa_nil) (pa_cons (pe_tup pa_nil) (pa_cons (pe_tup pa_nil) pa_nil))))))))) (pa_cons (C8.pe_c c_law_drop hr (by decide) rfl (pa_cons (pv 0) (pa_cons pe_int pa_nil))) pa_nil)) (by rfl))
  (pss_cons (ps_par (i := 3) (j := 4) (by rfl) sc_law_right.nd rfl rfl (by decide) rfl rfl (pa_cons (pe_op op_add pe_int (C8.pe_c c_law_drop hr (by decide) rfl (pa_cons (pv 0) (pa_cons pe_int pa_nil)))) (pa_cons (pe_op op_add pe_int (C8.pe_c c_law_drop hr (by decide) rfl (pa_cons (pv 0) (pa_cons pe_int pa_nil)))) pa_nil)) (by rfl))
  (pss_cons (ps_if (pt_cmpR op_lt (pv 2) pe_int (nomark _))
  (pss_one (ps_asg (C8.pe_c c_law_laid hr (by decide) rfl (pa_cons (pv 0) (pa_cons (pv 1) (pa_cons (pv 3) pa_nil)))) (My.pg_tupK (K := K) (n := 2) rfl rfl (pgs_cons (pg_name (i := 5) sc_law_right.nd rfl (by first | exact Or.inl rfl | exact Or.inr rfl)) (pgs_cons (pg_name (i := 6) sc_law_right.nd rfl (by first | exact Or.inl rfl | exact Or.inr rfl)) pgs_nil)))))
  (pss_one (ps_if (pt_cmpR op_lt (pv 2) pe_int (nomark _))
  (pss_one (ps_asg (C8.pe_c c_law_opened hr (by decide) rfl (pa_cons (pv 0) (pa_cons (pv 1) (pa_cons (pv 3) pa_nil)))) (My.pg_tupK (K := K) (n := 2) rfl rfl (pgs_cons (pg_name (i := 5) sc_law_right.nd rfl (by first | exact Or.inl rfl | exact Or.inr rfl)) (pgs_cons (pg_name (i := 6) sc_law_right.nd rfl (by first | exact Or.inl rfl | exact Or.inr rfl)) pgs_nil)))))
  (pss_one (ps_asg (C8.pe_c c_law_refused hr (by decide) rfl (pa_cons (pv 0) (pa_cons (pv 1) (pa_cons (pv 3) pa_nil)))) (My.pg_tupK (K := K) (n := 2) rfl rfl (pgs_cons (pg_name (i := 5) sc_law_right.nd rfl (by first | exact Or.inl rfl | exact Or.inr rfl)) (pgs_cons (pg_name (i := 6) sc_law_right.nd rfl (by first | exact Or.inl rfl | exact Or.inr rfl)) pgs_nil))))))))
  (pss_one (ps_ret (C8.pe_c c_law_wrong hr (by decide) rfl (pa_cons (C8.pe_c c_law_made hr (by decide) rfl (pa_cons (pv 4) (pa_cons (pv 1) pa_nil))) (pa_cons (pv 5) (pa_cons (pv 6) pa_nil))))))))))), ?_⟩
    refine ⟨Nat.zero_le _, fun t0 ht0 => ⟨Nat.zero_le _, fun t1 ht1 => ⟨Nat.zero_le _, fun t2 ht2 => ⟨Nat.zero_le _, fun t3 ht3 => ⟨Nat.zero_le _, fun t4 ht4 => ⟨Nat.zero_le _, fun t5 ht5 => ⟨Nat.zero_le _, fun t6 ht6 => ⟨Nat.zero_le _, fun t7 ht7 => ⟨by show 8 ≤ sizeLine; decide, fun R hR => ?_⟩⟩⟩⟩⟩⟩⟩⟩⟩
    have y0 := same_new (o := .tup []) ht0
    have y1 := same_new (o := .tup []) ht1
    have y2 := same_new (o := .tup []) ht2
    have y3 := same_new (o := .tup []) ht3
    have y4 := same_new (o := .tup []) ht4
    have y5 := same_new (o := .tup []) ht5
    have y6 := same_new (o := .tup []) ht6
    have y7 := same_new (o := .tup []) ht7
    have y8 := same_new (o := .lst [.ref t0, .ref t1, .ref t2, .ref t3, .ref t4, .ref t5, .ref t6, .ref t7]) hR
    have x6 := y7.trans y8
    have x5 := y6.trans x6
    have x4 := y5.trans x5
    have x3 := y4.trans x4
    have x2 := y3.trans x3
    have x1 := y2.trans x2
    have x0 := y1.trans x1
    have st := y0.trans x0
    have rl0 : Paired (RuleAt K _) [t0, t1, t2, t3, t4, t5, t6, t7] e8 := .cons (SqT.of (x0 _ _ upd_same)) (.cons (SqT.of (x1 _ _ upd_same)) (.cons (SqT.of (x2 _ _ upd_same)) (.cons (SqT.of (x3 _ _ upd_same)) (.cons (SqT.of (x4 _ _ upd_same)) (.cons (SqT.of (x5 _ _ upd_same)) (.cons (SqT.of (x6 _ _ upd_same)) (.cons (SqT.of (y8 _ _ upd_same)) .nil)))))))
    have hRn : H R = none := (y0.trans (y1.trans (y2.trans (y3.trans (y4.trans (y5.trans (y6.trans y7))))))).free hR
    have hR0 : upd (upd (upd (upd (upd (upd (upd (upd (upd H t0 (.tup [])) t1 (.tup [])) t2 (.tup [])) t3 (.tup [])) t4 (.tup [])) t5 (.tup [])) t6 (.tup [])) t7 (.tup [])) R (.lst [.ref t0, .ref t1, .ref t2, .ref t3, .ref t4, .ref t5, .ref t6, .ref t7]) R = some (.lst ([t0, t1, t2, t3, t4, t5, t6, t7].map V.ref)) := upd_same
    have s0 := hs.same st
    generalize upd (upd (upd (upd (upd (upd (upd (upd (upd H t0 (.tup [])) t1 (.tup [])) t2 (.tup [])) t3 (.tup [])) t4 (.tup [])) t5 (.tup [])) t6 (.tup [])) t7 (.tup [])) R (.lst [.ref t0, .ref t1, .ref t2, .ref t3, .ref t4, .ref t5, .ref t6, .ref t7]) = H0 at st rl0 hR0 s0 ⊢
    have w0 : W29 a R H H0 := (W29.refl a R H).same st
    refine ⟨_, rfl, a, 1, 12, rfl, s0, by decide, by decide, by decide, fun H1 way b1 s1 k0 k1 => ⟨_, _, rfl, ?_⟩⟩
    refine ⟨_, rfl, a, 2, 20, rfl, s1, by decide, by decide, by decide, fun H2 mi b2 s2 m0 m1 => ⟨_, _, rfl, rfl, ?_⟩⟩
    refine ⟨_, rfl, a, 3, 30, rfl, s2, by decide, by decide, by decide, fun H3 di b3 s3 d0 d1 => ⟨_, _, rfl, rfl, _, _, rfl, ?_⟩⟩
    have w3 := ((w0.draw b1 s0).draw b2 s1).draw b3 s2
    have hR3 := rawS b3 s2 (rawS b2 s1 (rawS b1 s0 hR0 (refs_no _)) (refs_no _)) (refs_no _)
    have rl3 := (KT.draw b3 s2).rules ((KT.draw b2 s1).rules ((KT.draw b1 s0).rules rl0))
    obtain ⟨m, hm⟩ : ∃ m : Nat, 1 + mi = (m : Int) := ⟨(1 + mi).toNat, by omega⟩
    have hm1 : 1 ≤ m := by omega
    have hm2 : m ≤ 20 := by omega
    show Ends.nx _ [some (.ref a), some (.ref R), some (.int way), some (.int (1 + mi)), some (.int (1 + di)), none, none] H3
    rw [hm]
    have fin : ∀ (H4 : Hp) (t : Addr), Got29 K a R H3 H4 t →
        gTup K 2 (gCons (gName 5) (gCons (gName 6) gNil)) (V.ref t) [some (.ref a), some (.ref R), some (.int way), some (.int (m : Int)), some (.int (1 + di)), none, none] H4
          (fun σ H => (tRet (tCall (sp_law_wrong K) [] C8.E0 (tCons (tCall (sp_law_made K) [] C8.E0 (tCons (tVar 4) (tCons (tVar 1) tNil))) (tCons (tVar 5) (tCons (tVar 6) tNil))))) { nx := fun x H' => Q V.non H', rt := Q } σ H) := by
      rintro H4 t ⟨A, Fd, qs, us, rb, xs, ds, l, b4, ht, hR4, rl4, hg, hA, hdd, hpl, hlen, hF, hfl, hmath⟩
      refine ⟨_, _, rfl, SqT.of ht, rfl, _, _, rfl, _, _, rfl, rfl, ?_⟩
      refine ⟨_, rfl, _, rfl, R, 1 + di, qs, rb, rfl, SqL.of hR4, by omega, by omega, rl4, hg.len, hg.good, fun H5 bk hbn s5 hB => ?_⟩
      have hw := fl_words 0 _ (run_words rb (1 + di) ds)
      rw [hmath] at hw
      refine ⟨_, rfl, _, rfl, bk, A, Fd, 1 + di, rb, xs, ds, rfl, hB, hg, SqL.of (s5 _ _ hA), DeedsAt.same s5 hdd, hpl, by omega, ⟨us, s5 _ _ hF, by rw [hmath]; exact (KT.of s5).fits hfl⟩, by rw [hmath]; exact hw, fun H6 s6 => ?_⟩
      refine q _ fun b o hb e => ?_
      have nb : b ∉ [a, R] := fun z => by
        rcases List.mem_cons.mp z with z | z
        · exact hb (by rw [z]; exact List.mem_cons_self ..)
        · rw [List.mem_singleton.mp z, hRn] at e; cases e
      exact s6 _ _ (s5 _ _ (b4 _ _ nb (w3.b _ _ nb e)))
    refine ⟨_, rfl, _, _, rfl, rfl, _, rfl, L2.ite2 (fun c => ?_) (fun c => ?_)⟩
    · exact ⟨_, rfl, _, rfl, _, rfl, a, R, 4, m, _, rfl, hm1, hm2, s3, by decide, hR3, rl3, fin⟩
    refine ⟨_, rfl, _, _, rfl, rfl, _, rfl, L2.ite2 (fun c => ?_) (fun c => ?_)⟩
    · exact ⟨_, rfl, _, rfl, _, rfl, a, R, 4, m, _, rfl, hm1, hm2, s3, by decide, hR3, rl3, fin⟩
    · exact ⟨_, rfl, _, rfl, _, rfl, a, R, 4, m, _, rfl, hm1, hm2, s3, by decide, hR3, rl3, fin⟩
theorem c_law_right (T : Txt K mg) : C8.Cal P w K mg base 10 "_law_right" (sp_law_right K) [] := by
  obtain ⟨fd, F⟩ := T.f_law_right
  exact ⟨_, fd, _, _, ok_law_right T F, T.g_law_right, F.kp, F.bindsN (fun _ _ _ _ _ _ us hl => match us, hl with | [_], _ => rfl), .nil⟩
def sp_law (K : PySem.W.Frag) : Sp := fun vs H Q _ => ∃ (a : Addr) (ns : List Int), vs = [.ref a] ∧ SqL K H a (ns.map V.int) ∧ ns.length ≤ 63 ∧ ∀ H', Q (.bl true) H'
set_option maxHeartbeats 2000000 in
theorem ok_law (T : Txt K mg) {fd : FuncData} (F : FunD K d_law.name d_law.qual d_law.params d_law.body d_law.scope (d_law.dvs K) (d_law.kws K) (He.fAd K d_law.at_) fd) : FnOk P w K mg base C8.CX0 11 (He.fAd K d_law.at_) fd ["script"] (sp_law K) := by
  have c_law_right := c_law_right (P := P) (w := w) (base := base) T
  have c_law_spring := c_law_spring (P := P) (w := w) (base := base) T
  refine F.ok sc_law (fun vs H Q E h => ?_) (fun cdv A outer s H vs Q E hr h => ?_)
  · obtain ⟨a, ns, rfl, _⟩ := h
    rfl
  · have hu := L2.hu_of hr
    obtain ⟨a, ns, rfl, hS, hl, q⟩ := h
    refine ⟨_, (PSs.nox ((pss_cons (ps_for PassesOwn.never rfl (pi_range1 (by rfl) T.range (pa_cons (pe_callB (call_max2 rfl) (by rfl) T.max (by decide +kernel) (pa_cons pe_int (pa_cons (pe_callB (call_min2 rfl) (by rfl) T.min (by decide +kernel) (pa_cons pe_int (pa_cons (pe_callB (My.len_seqK (K := K) rfl) (by rfl) T.len (by decide +kernel) (pa_cons (pv 0) pa_nil)) pa_nil))) pa_nil))) pa_nil)) (pg_name (i := 1) sc_law.nd rfl (by first | exact Or.inl rfl | exact Or.inr rfl))
  (pss_one (ps_if (pt_not (pt_val (C8.pe_c c_law_right hr (by decide) rfl (pa_cons (C8.pe_c c_law_spring hr (by decide) rfl (pa_cons (pv 0) (pa_cons (pv 1) pa_nil))) pa_nil))))
  (pss_one (ps_ret pe_bl))
  pss_nil)))
  (pss_one (ps_ret pe_bl))))), ?_⟩
    refine ⟨_, rfl, a, _, rfl, .inl hS, _, _, rfl, _, _, rfl, _, rfl, ?_, ?_, ?_⟩
    · split <;> split <;> omega
    · split <;> split <;> omega
    refine for_range (lo := 0) (fun i σ H' => ∃ o, σ = [some (.ref a), o] ∧ SqL K H' a (ns.map V.int)) ⟨_, rfl, hS⟩ ?_ ?_
    · rintro i σ H1 hi ⟨o, rfl, hS1⟩
      refine ⟨_, rfl, _, rfl, a, ns, _, rfl, hS1, by omega, ?_, fun H2 p hp s2 hsp => ?_⟩
      · have : (i : Nat) < 30 := Nat.lt_of_lt_of_le hi (by split <;> split <;> omega)
        omega
      refine ⟨p, rfl, hsp, fun H3 b3 => ⟨_, rfl, ?_⟩⟩
      exact L2.iteF ⟨_, rfl, sqS hS1 hp s2 b3⟩
    · rintro σ H1 ⟨o, rfl, hS1⟩
      exact q _
theorem c_law (T : Txt K mg) : C8.Cal P w K mg base 11 "law" (sp_law K) [] := by
  obtain ⟨fd, F⟩ := T.f_law
  exact ⟨_, fd, _, _, ok_law T F, T.g_law, F.kp, F.bindsN (fun _ _ _ _ _ _ us hl => match us, hl with | [_], _ => rfl), .nil⟩
end
end K29

namespace K29
open PySem PySem.Spec PyProof.Rows L2 My
abbrev spLaw (K : PySem.W.Frag) : Sp := sp_law K
theorem law_end {P : Program} {w : World} {K : PySem.W.Frag} {mg : Str → Option Value} {fa : Addr} (T : Txt K mg) (hmg : mg ("law" : Str) = some (.ref fa)) :
    ∃ fd, (∀ (s : Shared) (u : Value), BindsTo s fd ⟨[u], []⟩ [("script", u)]) ∧ ∀ base : Heap, K.In base → base.Ns mainGlobals mg → FnOk P w K mg base L2.CX0 11 fa fd ["script"] (spLaw K) := by
  obtain ⟨fd, F⟩ := T.f_law
  have e : fa = He.fAd K d_law.at_ := by
    have h := T.g_law
    rw [hmg] at h
    exact Value.ref.inj (Option.some.inj h)
  subst e
  exact ⟨fd, fun s u => F.bindsA (ps := ["script"]) (fun _ _ _ _ _ _ us hl => match us, hl with | [_], _ => rfl) s [u] rfl, fun base _ _ => ok_law T F⟩
end K29

open PySem PySem.W PySem.Calls PyProof.Rows in
set_option maxRecDepth 100000 in
set_option maxHeartbeats 0 in
theorem PySem.Challenge.cw_lockerwall_k29_faults_one_by_one_holds : PySem.Challenge.rw_lockerwall_k29_faults_one_by_one.Holds := by
  w_on; o_law
  refine HandSHeadRun.head_any (r := OpenLaw.row PySem.Challenge.rw_lockerwall_k29_faults_one_by_one) (q := view (OpenLaw.row PySem.Challenge.rw_lockerwall_k29_faults_one_by_one).prog [44]) (H := K29.hk) (ob := K29.ob) (M := 6000) (loose := K29.loose) (d := HandSHeadRun.topDef (OpenLaw.row PySem.Challenge.rw_lockerwall_k29_faults_one_by_one).prog 44) (kwd := []) K29.ob_eq
    (by kernel_rfl) (fun s => by kernel_rfl) K29.run (by kernel_rfl) (by kernel_rfl) (by kernel_rfl) (by rfl) (by first | assumption | decide +kernel) (by decide +kernel) ⟨rfl, rfl, rfl, rfl, rfl, by decide +kernel⟩ ?hw ?hc
  case hw => w_witness2
  case hc =>
    refine L2.walk_ofE (l := PySem.Challenge.rw_lockerwall_k29_faults_one_by_one) (n := 63) (k := 11) (x := "script") (CX := L2.CX0) rfl (by decide) (by kernel_rfl) ⟨rfl, by decide, by decide⟩ ?F (fun _ _ _ _ z => z)
    intro w mg fa h Y G hmg0
    obtain ⟨K, KX, c, e⟩ := Y
    have hmg : mg ("law" : PySem.Str) = some (.ref fa) := by
      have e : (HandSHeadRun.topDef (OpenLaw.row PySem.Challenge.rw_lockerwall_k29_faults_one_by_one).prog 44).name = ("law" : PySem.Str) := by kernel_rfl
      rw [← e]
      exact hmg0
    obtain ⟨fd, hb, hF⟩ := K29.law_end (P := (PySem.Challenge.rw_lockerwall_k29_faults_one_by_one).prog) (w := w) ⟨h, KX, G, c, e⟩ hmg
    exact ⟨K, fd, K29.spLaw K, KX, hb, fun H a ns hl hO hS => ⟨a, ns, rfl, hS, hl, fun _ => rfl⟩, hF⟩

