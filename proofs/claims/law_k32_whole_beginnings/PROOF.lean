import PyProof.Rows.All
import Wide.All
import OpenK.AllK
import Wide.FinOn
import HandS.ForMost
import HandS.Flow
import HandS.IsInst
import HandS.Style
import HandS.More
import HandS.Strs
import HandS.Zip
import HandS.Codes
import HandS.Defaults
import HandS.MakeKw
import HandS.TupAny
import HandS.TupMul
import HandS.Wide
import HandS.Sort
import HandS.SortInts
import HandS.NoneIn
import HandS.Conv
import HandS.Walk
import HandS.Head0
import HandS.Head1
import HandS.Head2
import HandS.HeadEnd
import HandS.HeadHook1
import HandS.HeadHook2
import HandS.Star
import HandS.SortOrd
import HandS.TryOnly
import PySem.Challenge.RW_lockerwall_k32_whole_beginnings
set_option Elab.async false
set_option linter.all false
set_option maxRecDepth 100000
namespace My
open PySem PySem.Spec PyProof.Rows L2
/-! ### tables of the written part by address -/
def tupAt (K : PySem.W.Frag) (a : Addr) (vs : List V) : Bool := match K.lookup a with
  | some ⟨.type c, none, .seq its _, _⟩ => decide (c = "tuple") && (decide (its.size ≤ sizeLine) && He.relAll vs its.toList)
  | _ => false
theorem tupAt_ex {K : PySem.W.Frag} {a : Addr} {vs : List V} (h : tupAt K a vs = true) : ∃ (o : Obj) (its : Array Value) (n : Nat), K.lookup a = some o ∧ o.cls = .type "tuple" ∧ o.dict = none ∧ o.data = .seq its n ∧ its.size ≤ sizeLine ∧ Vals vs its.toList := by
  unfold tupAt at h
  cases q : K.lookup a with
  | none =>
    rw [q] at h
    cases h
  | some o =>
    obtain ⟨oc, od, dt, osl⟩ := o
    rw [q] at h
    cases oc with
    | type c =>
      cases od with
      | none =>
        cases dt with
        | seq its n =>
          obtain ⟨h1, h2⟩ := He.ba (show (decide (c = "tuple") && (decide (its.size ≤ sizeLine) && He.relAll vs its.toList)) = true from h)
          obtain ⟨h3, h4⟩ := He.ba h2
          exact ⟨_, its, n, rfl, congrArg Value.type (of_decide_eq_true h1), rfl, rfl, of_decide_eq_true h3, He.relAll_ok h4⟩
        | _ => cases h
      | some d => cases dt <;> cases h
    | _ => cases od <;> cases dt <;> cases h
theorem tupAt_ok {K : PySem.W.Frag} {a : Addr} {vs : List V} (h : tupAt K a vs = true) (H : Hp) : SqT K H a vs := by
  obtain ⟨o, its, n, h1, h2, h3, h4, h5, h6⟩ := tupAt_ex h
  exact .inr ⟨o, its, n, h1, h2, h4, h5, h6⟩
theorem tupAt_ty {K : PySem.W.Frag} {a : Addr} {vs : List V} (h : tupAt K a vs = true) (H : Hp) : tyV K "tuple" (.ref a) H := by
  obtain ⟨o, its, n, h1, h2, h3, h4, h5, h6⟩ := tupAt_ex h
  exact .inr (.inl ⟨rfl, o, h1, h2, h3⟩)
theorem all_ix {l : List Bool} (h : l.all id = true) (i : Nat) {b : Bool} (e : l[i]? = some b) : b = true := by
  have := List.all_eq_true.mp h b (List.mem_of_getElem? e)
  exact this
/-! ### the Hook: facts, defs, one more Bool -/
abbrev AlE : Type := He.AlD × Bool
def obsDG2 (n : Nat) (fa : List He.Fa) (fn : List He.DefD) (ex : PySem.W.Frag → Bool) (g : Addr → Option Obj) : AlE := (fun K => (He.obsD fa fn K, ex K)) (He.frG g (He.asD g n))
def hookD2 (n : Nat) (fa : List He.Fa) (fn : List He.DefD) (ex : PySem.W.Frag → Bool) : PySem.W.Hook where
  α := AlE
  obs := fun s => obsDG2 n fa fn ex s.heap.get?
  val := fun _ => (He.valD fn, true)
  says := fun _ h => ∃ K : PySem.W.Frag, K.In h ∧ He.SaysD fa fn K ∧ ex K = true
  of := fun _ _ e => ⟨_, He.frG_in, congrArg (fun z : AlE => z.1) e, congrArg (fun z : AlE => z.2) e⟩
  keeps := fun _ _ _ ⟨K, hK, c⟩ k => ⟨K, PySem.W.Frag.In.keeps hK k, c⟩
theorem obsDG2_eq {n : Nat} {fa : List He.Fa} {fn : List He.DefD} {ex : PySem.W.Frag → Bool} {g : Addr → Option Obj} {s : Shared} (h : ∀ a, g a = s.heap.get? a) : obsDG2 n fa fn ex g = (hookD2 n fa fn ex).obs s := by
  have e : g = s.heap.get? := funext h
  rw [e] <;> rfl
end My
namespace My
open PySem PySem.Spec PyProof.Rows L2
/-! ### small rules -/
section
variable {X : Cx} {k j : Nat} {C : Addr} {x : Str} {sp : Sp} {dvs : List V} {p pos : Pos}
theorem pe_c0 (c : C8.Cal X.prog X.w X.K X.mg X.base k x sp dvs) (hr : Room j X.A) (hk : k ≤ j) (hg : Gl X x) (hdb : (x == ("__debug__" : Str)) = false := by decide) :
    PE X (.Call (.Name x p) [] [] pos) (tCall sp dvs C8.E0 tNil) := by
  obtain ⟨f, fd, ps, ds, F, hm, kp, b, d⟩ := c.ex
  exact pe_call0 F (hr.mono hk) hg hm kp b d C8.pass0 hdb
theorem pe_mk0 (c : C8.Mak X.prog X.w X.K X.mg X.base k x C sp dvs) (hr : Room j X.A) (hk : k + 1 ≤ j) (hg : Gl X x) (hdb : (x == ("__debug__" : Str)) = false := by decide) :
    PE X (.Call (.Name x p) [] [] pos) (tMake C sp dvs C8.E0 tNil) := by
  obtain ⟨f, fd, ps, ds, M, F, hm, b, d⟩ := c.ex
  exact pe_make0 M F (hr.mono hk) hg hm b d C8.pass0 hdb
/-- ** of great ints -/
def CPowW (i j : Int) : Prop := 0 ≤ j ∧ j ≤ 100 ∧ i.natAbs < 2 ^ 10000
theorem op_powW : OpR X (binaryOp .Pow) (rI CPowW fun i j => .int (i ^ j.toNat)) := opI fun i j _ _ _ _ _ hc q => by
  obtain ⟨h1, h2, h3⟩ := hc
  have hb := intBits_le h3
  refine PyProof.Rows.pow_int h1 ?_ q
  have h4 : (Builtin.Int.intBits i : Int) ≤ 10000 := by omega
  have h5 : (Builtin.Int.intBits i : Int) * j ≤ 10000 * 100 := Int.mul_le_mul h4 h2 h1 (by decide)
  exact Int.le_trans h5 (by decide)
end
theorem inV_str (x : Str) : ∀ ws : List Str, inV (.str x) (ws.map V.str) = decide (x ∈ ws)
  | [] => rfl
  | y :: ws => by
    have ih := inV_str x ws
    show (eqV (.str y) (.str x) || inV (.str x) (ws.map V.str)) = _
    rw [ih]
    show ((y == x) || decide (x ∈ ws)) = _
    by_cases e : y = x
    · subst e
      simp
    · have e2 : ¬ x = y := fun z => e z.symm
      simp [e, e2]
theorem all_flat_str (ws : List Str) : (ws.map V.str).all flatV = true := by
  rw [List.all_map]
  exact List.all_eq_true.mpr fun _ _ => rfl
end My

namespace My
open PySem PySem.Spec PyProof.Rows L2
theorem map_get {α β : Type} {f : α → β} {l : List α} {i : Nat} {y : β} (h : (l.map f)[i]? = some y) : ∃ z, l[i]? = some z ∧ y = f z := by
  rw [List.getElem?_map] at h
  cases e : l[i]? with
  | none =>
    rw [e] at h
    cases h
  | some z =>
    rw [e] at h
    exact ⟨z, rfl, (Option.some.inj h).symm⟩
theorem tyx_tup {K : PySem.W.Frag} {H : Hp} {a : Addr} {xs : List V} (h : SqT K H a xs) : TyX K H (.ref a) (.type "tuple") := by
  rcases h with (h | ⟨o, h⟩) | ⟨o, its, n, hk, hc, _⟩
  · exact .base (.tup h)
  · exact .fTuple h
  · exact .kTuple hk hc
theorem tyx_lst {K : PySem.W.Frag} {H : Hp} {a : Addr} {xs : List V} (h : SqL K H a xs) : TyX K H (.ref a) (.type "list") := by
  rcases h with (h | ⟨o, h⟩) | ⟨o, its, n, hk, hc, _⟩
  · exact .base (.lst h)
  · exact .base (.frz h)
  · exact .kList hk hc
theorem same_tup {K : PySem.W.Frag} {H H' : Hp} {a : Addr} {xs : List V} (e : Same H H') (h : SqT K H a xs) : SqT K H' a xs := by
  rcases h with (h | ⟨o, h⟩) | h
  · exact .inl (.inl (e _ _ h))
  · exact .inl (.inr ⟨o, e _ _ h⟩)
  · exact .inr h
theorem same_new {H : Hp} {a : Addr} {o : HO} (h : H a = Option.none) : Same H (upd H a o) := fun b u e => by
  rw [upd_ne (ne_of_none e h)]
  exact e
theorem same_upd {H H' : Hp} {a : Addr} {o : HO} (s : Same H H') (h : H a = Option.none) : Same H (upd H' a o) := fun b u e => by
  rw [upd_ne (ne_of_none e h)]
  exact s b u e
/-- all that stood stands as it was, but at these addresses -/
def But (as : List Addr) (H H' : Hp) : Prop := ∀ b o, b ∉ as → H b = some o → H' b = some o
theorem But.refl (as : List Addr) (H : Hp) : But as H H := fun _ _ _ h => h
theorem But.trans {as : List Addr} {H H1 H2 : Hp} (a : But as H H1) (b : But as H1 H2) : But as H H2 := fun c o n h => b c o n (a c o n h)
theorem But.of {as : List Addr} {H H' : Hp} (s : Same H H') : But as H H' := fun c o _ h => s c o h
theorem But.mono {as bs : List Addr} {H H' : Hp} (s : But as H H') (h : ∀ a ∈ as, a ∈ bs) : But bs H H' := fun c o n e => s c o (fun z => n (h c z)) e
theorem But.same {H H' : Hp} (s : But [] H H') : Same H H' := fun c o h => s c o (by simp) h
/-- a change at a place that was not there, or that is let -/
theorem But.put {as : List Addr} {H H' : Hp} {a : Addr} {o : HO} (s : But as H H') (h : H a = Option.none ∨ a ∈ as) : But as H (upd H' a o) := fun b u n e => by
  have nb : b ≠ a := by
    intro z
    subst z
    rcases h with h | h
    · rw [h] at e
      cases e
    · exact n h
  rw [upd_ne nb]
  exact s b u n e
theorem But.tup {K : PySem.W.Frag} {as : List Addr} {H H' : Hp} {a : Addr} {xs : List V} (s : But as H H') (n : a ∉ as) (h : SqT K H a xs) : SqT K H' a xs := by
  rcases h with (h | ⟨o, h⟩) | h
  · exact .inl (.inl (s _ _ n h))
  · exact .inl (.inr ⟨o, s _ _ n h⟩)
  · exact .inr h
theorem But.lst {K : PySem.W.Frag} {as : List Addr} {H H' : Hp} {a : Addr} {xs : List V} (s : But as H H') (n : a ∉ as) (h : SqL K H a xs) : SqL K H' a xs := by
  rcases h with (h | ⟨o, h⟩) | h
  · exact .inl (.inl (s _ _ n h))
  · exact .inl (.inr ⟨o, s _ _ n h⟩)
  · exact .inr h
theorem But.none {as : List Addr} {H H' : Hp} {a : Addr} (s : But as H H') (n : a ∉ as) (h : H' a = Option.none) : H a = Option.none := by
  cases q : H a with
  | none => rfl
  | some o =>
    rw [s a o n q] at h
    cases h
end My
namespace My
open PySem PySem.Spec PyProof.Rows L2
/-! ### the rules by a named K (a comprehension's block has its own context over the same K) -/
section
variable {X : Cx} {K : PySem.W.Frag} {a b e o : Expr} {es : List Expr} {ta tb te to : TE} {t : TA} {pos apos cpos tpos p2 : Pos} {f name : Str} {T id : String} {r : V → List V → Hp → VK → Prop} {tg l : Expr} {tl : TE}
theorem ix_listK (h : X.K = K) : IxR X (rIxL K) := by subst h; exact ix_list
theorem ix_tupK (h : X.K = K) : IxR X (rIxT K) := by subst h; exact ix_tup
def rLenQ (K : PySem.W.Frag) : List V → Hp → VK → Prop := fun xs H Q => ∃ p ys, xs = [.ref p] ∧ (SqL K H p ys ∨ SqT K H p ys) ∧ Q (.int ys.length) H
theorem len_seqK (h : X.K = K) : CallR X (.builtin "len") (rLenQ K) := by subst h; exact call_len_seq
def rListOf (K : PySem.W.Frag) : List V → Hp → VK → Prop := fun xs H Q => ∃ p ys, xs = [.ref p] ∧ (SqL K H p ys ∨ SqT K H p ys) ∧ ∀ l, H l = none → Q (.ref l) (upd H l (.lst ys))
theorem list_ofK (h : X.K = K) : CallR X (.type "list") (rListOf K) := by subst h; exact call_list_of
def rTupleOf (K : PySem.W.Frag) : List V → Hp → VK → Prop := fun xs H Q => ∃ p ys, xs = [.ref p] ∧ ((SqL K H p ys ∧ ∀ l, H l = none → Q (.ref l) (upd H l (.tup ys))) ∨ (SqT K H p ys ∧ Q (.ref p) H))
theorem tuple_ofK (h : X.K = K) : CallR X (.type "tuple") (rTupleOf K) := by subst h; exact call_tuple_of
theorem isiK (h : X.K = K) : CallR X (.builtin "isinstance") (rIsi K) := by subst h; exact call_isi
theorem isiTK (h : X.K = K) : CallR X (.builtin "isinstance") (rIsiT K) := by subst h; exact call_isiT
theorem allK (h : X.K = K) (hc : X.calm = true) : CallR X (.builtin "all") (rAll K) := by subst h; exact cr_all hc
theorem anyK (h : X.K = K) (hc : X.calm = true) : CallR X (.builtin "any") (rAny K) := by subst h; exact cr_any hc
theorem sortedIK (h : X.K = K) : CallR X (.builtin "sorted") (rSortedI K) := by subst h; exact cr_sortedI
theorem in_seqK (h : X.K = K) : OpR X (compareOp .In) (rIn K false) := by subst h; exact op_in_seq
theorem notIn_seqK (h : X.K = K) : OpR X (compareOp .NotIn) (rIn K true) := by subst h; exact op_notIn_seq
theorem eqDK (h : X.K = K) (hu : X.A.units + 64 < cLine) : OpR X (compareOp .Eq) (rEqD K) := by subst h; exact op_eqD hu
theorem neDK (h : X.K = K) (hu : X.A.units + 64 < cLine) : OpR X (compareOp .NotEq) (rNeD K) := by subst h; exact op_neD hu
theorem catAK (h : X.K = K) : OpR X (binaryOp .Add) (rCatA K) := by subst h; exact op_catA
theorem repTK (h : X.K = K) : OpR X (binaryOp .Mult) (rRepT K) := by subst h; exact op_repT
theorem sl_listK (h : X.K = K) : SlR X (rSlL K) := by subst h; exact sl_list
theorem sl_tupAK (h : X.K = K) : SlR X (rSlA K) := by subst h; exact sl_tupA
theorem pe_fldK (h : X.K = K) (he : PE X e ta) (hb : attributeBase e f X.env (eval e X.env) = eval e X.env) : PE X (.Attribute e f pos) (tFld K ta f) := by subst h; exact pe_fld he hb
theorem pt_truthK (h : X.K = K) (ha : PE X a ta) (he : ∀ whole, isTrue a X.env whole = (do let v ← whole; standAt a.pos; holding [v] (truthy v))) : PT X a (fun σ H Q => ta σ H fun x H' => ∃ k, TruV K x H' k ∧ Q k H') := by subst h; exact pt_truth ha he
theorem pi_listK (h : X.K = K) (hl : PE X l tl) : PI X tg l (iList K tl) := by subst h; exact pi_list hl
theorem pi_tupK (h : X.K = K) (hl : PE X l tl) : PI X tg l (iTup K tl) := by subst h; exact pi_tup hl
theorem pe_revLK {k : Nat} {p1 p3 : Pos} (h : X.K = K) (he : PE X e te) : PE X (.Subscript e (.Slice none none (some (.UnaryOp .USub (.Constant (.int 1) k p1) p2)) p3) pos) (tRevL K te) := by subst h; exact pe_revL he
theorem pe_bm0K (h : X.K = K) (pa : PlainAttrs T) (slot : Slot T name id) (hty : typeOf (.builtin id) = pure (.type "method_descriptor")) (hm : MtR X id r) (ho : PE X o to)
    (hbase : attributeBase o name X.env (eval o X.env) = eval o X.env := by rfl) (hline : (apos.endLine == cpos.line) = true := by rfl) : PE X (.Call (.Attribute o name apos) [] [] cpos) (tBM0 K T r to) := by subst h; exact pe_bm0 pa slot hty hm ho hbase hline
theorem pe_bmK (h : X.K = K) (pa : PlainAttrs T) (slot : Slot T name id) (hty : typeOf (.builtin id) = pure (.type "method_descriptor")) (hm : MtR X id r) (ho : PE X o to) (ha : PA X (e :: es) t)
    (hbase : attributeBase o name X.env (eval o X.env) = eval o X.env := by rfl)
    (hfew : ((backTo cpos (starEach (e :: es) X.env)).all (fun x => !x.1) && (backToKw cpos (keywordEach [] X.env)).all (fun x => x.1.isSome)
      && decide ((e :: es).length + ([] : List Keyword).length + (if ([] : List Keyword).isEmpty then 0 else 1) < 30)) = true := by rfl)
    (hline : (apos.endLine == cpos.line) = true := by rfl) (hs : starEach (e :: es) X.env = (false, eval e X.env) :: starEach es X.env := by rfl) (hplain : (backTo cpos (starEach es X.env)).any (·.1) = false := by rfl) :
    PE X (.Call (.Attribute o name apos) (e :: es) [] cpos) (tBM K T r to t) := by subst h; exact pe_bm pa slot hty hm ho ha hbase hfew hline hs hplain
def rTupIx (K : PySem.W.Frag) : V → List V → Hp → VK → Prop := fun x xs H Q => ∃ p, ∃ ys : List Str, ∃ z j, x = .ref p ∧ xs = [.str z] ∧ SqT K H p (ys.map V.str) ∧ ys[j]? = some z ∧ (∀ m, m < j → ys[m]? ≠ some z) ∧ Q (.int (j : Nat)) H
theorem tup_indexK (h : X.K = K) : MtR X "tuple.index" (rTupIx K) := by subst h; exact mt_tup_index
end
end My
namespace My
open PySem PySem.Spec PyProof.Rows L2
theorem pg_tupK {X : Cx} {K : PySem.W.Frag} {es : List Expr} {k : Nat} {t : TGs} {n : Nat} {pos : Pos} (h0 : X.K = K) (hc : X.calm = true) (h : PGs X es t)
    (hn : (assignEach es X.env).length = n := by rfl) (hst : (assignEach es X.env).findIdx? (·.1) = none := by rfl) : PG X (.Tuple es k pos) (gTup K n t) := by subst h0; exact pg_tup hc h hn hst
/-! ### two fors in a comprehension -/
section
variable {J J1 : It} {n n1 : Nat} {G G1 : Hp → Prop} {Y Y1 : Nat → Hp → V → Hp → Prop} {g g1 : TG} {tt tt1 : TT} {te : TE} {wi1 : TI} {vs vs1 : List Nat} {σ σ2 : L2.St} {H1 H4 : Hp} {D : Addr} {Qd Nx : Hp → Prop}
theorem lc2_out (w : Walk J n G Y) (Pv : Nat → Hp → Prop) (h0 : Pv 0 (upd H1 D (.lst []))) (hG : ∀ i H, i ≤ n → Pv i H → G H)
    (hs : ∀ i x H H', i < n → Pv i H → Y i H x H' → g x (wipe σ vs) H' fun σ2 H2 => wipe σ2 vs = wipe σ vs ∧ tt σ2 H2 fun b H3 =>
      if b = true then wi1 σ2 H3 fun J1 H4 => ∃ W1 : Nat → Nat → Hp → Prop, (∃ m, W1 0 m H4) ∧ ∀ j k H, W1 j k H →
        (J1.stop j H ∧ Pv (i + 1) H) ∨ (J1.go j H ∧ ∃ Nx1 : Hp → Prop, (∀ H', Nx1 H' → ∃ k', k' < k ∧ W1 (j + 1) k' H') ∧ ∀ x H', J1.yld j H x H' → g1 x (wipe σ2 vs1) H' fun σ3 H5 => wipe σ3 vs1 = wipe σ2 vs1 ∧ tt1 σ3 H5 fun b H6 =>
          if b = true then te σ3 H6 fun y H7 => ∃ acc, H7 D = some (.lst acc) ∧ acc.length < sizeLine ∧ Nx1 (upd H7 D (.lst (acc ++ [y]))) else Nx1 H6)
      else Pv (i + 1) H3) (hd : ∀ H, Pv n H → Qd H) :
    ∃ W : Nat → Nat → Hp → Prop, (∃ m, W 0 m (upd H1 D (.lst []))) ∧ ∀ i m H, W i m H →
      (J.stop i H ∧ Qd H) ∨ (J.go i H ∧ ∃ Nx : Hp → Prop, (∀ H', Nx H' → ∃ m', m' < m ∧ W (i + 1) m' H') ∧ ∀ x H', J.yld i H x H' → g x (wipe σ vs) H' fun σ2 H2 => wipe σ2 vs = wipe σ vs ∧ tt σ2 H2 fun b H3 =>
        if b = true then wi1 σ2 H3 fun J1 H4 => ∃ W1 : Nat → Nat → Hp → Prop, (∃ m, W1 0 m H4) ∧ ∀ j k H, W1 j k H →
          (J1.stop j H ∧ Nx H) ∨ (J1.go j H ∧ ∃ Nx1 : Hp → Prop, (∀ H', Nx1 H' → ∃ k', k' < k ∧ W1 (j + 1) k' H') ∧ ∀ x H', J1.yld j H x H' → g1 x (wipe σ2 vs1) H' fun σ3 H5 => wipe σ3 vs1 = wipe σ2 vs1 ∧ tt1 σ3 H5 fun b H6 =>
            if b = true then te σ3 H6 fun y H7 => ∃ acc, H7 D = some (.lst acc) ∧ acc.length < sizeLine ∧ Nx1 (upd H7 D (.lst (acc ++ [y]))) else Nx1 H6)
        else Nx H3) := by
  refine ⟨fun i m H => m = n - i ∧ i ≤ n ∧ Pv i H, ⟨n, by simp, Nat.zero_le _, h0⟩, ?_⟩
  rintro i m H ⟨rfl, hi, p⟩
  have q := hG i H hi p
  by_cases hlt : i < n
  · exact .inr ⟨w.goes i H hlt q, Pv (i + 1), fun H' p' => ⟨n - (i + 1), by omega, rfl, hlt, p'⟩, fun x H' y => hs i x H H' hlt p (w.yields i H x H' hlt q y)⟩
  · have e : i = n := by omega
    subst e
    exact .inl ⟨w.stops H q, hd H p⟩
theorem lc2_in (w : Walk J1 n1 G1 Y1) (Pv : Nat → Hp → Prop) (h0 : Pv 0 H4) (hG : ∀ i H, i ≤ n1 → Pv i H → G1 H)
    (hs : ∀ i x H H', i < n1 → Pv i H → Y1 i H x H' → g1 x (wipe σ2 vs1) H' fun σ3 H5 => wipe σ3 vs1 = wipe σ2 vs1 ∧ tt1 σ3 H5 fun b H6 =>
      if b = true then te σ3 H6 fun y H7 => ∃ acc, H7 D = some (.lst acc) ∧ acc.length < sizeLine ∧ Pv (i + 1) (upd H7 D (.lst (acc ++ [y]))) else Pv (i + 1) H6) (hd : ∀ H, Pv n1 H → Nx H) :
    ∃ W1 : Nat → Nat → Hp → Prop, (∃ m, W1 0 m H4) ∧ ∀ j k H, W1 j k H →
      (J1.stop j H ∧ Nx H) ∨ (J1.go j H ∧ ∃ Nx1 : Hp → Prop, (∀ H', Nx1 H' → ∃ k', k' < k ∧ W1 (j + 1) k' H') ∧ ∀ x H', J1.yld j H x H' → g1 x (wipe σ2 vs1) H' fun σ3 H5 => wipe σ3 vs1 = wipe σ2 vs1 ∧ tt1 σ3 H5 fun b H6 =>
        if b = true then te σ3 H6 fun y H7 => ∃ acc, H7 D = some (.lst acc) ∧ acc.length < sizeLine ∧ Nx1 (upd H7 D (.lst (acc ++ [y]))) else Nx1 H6) := by
  refine ⟨fun i m H => m = n1 - i ∧ i ≤ n1 ∧ Pv i H, ⟨n1, by simp, Nat.zero_le _, h0⟩, ?_⟩
  rintro i m H ⟨rfl, hi, p⟩
  have q := hG i H hi p
  by_cases hlt : i < n1
  · exact .inr ⟨w.goes i H hlt q, Pv (i + 1), fun H' p' => ⟨n1 - (i + 1), by omega, rfl, hlt, p'⟩, fun x H' y => hs i x H H' hlt p (w.yields i H x H' hlt q y)⟩
  · have e : i = n1 := by omega
    subst e
    exact .inl ⟨w.stops H q, hd H p⟩
end
end My
namespace My
open PySem PySem.Spec PyProof.Rows L2
/-! ### f(b=.., a=..): both arguments by name, turned about -/
def kwG {α : Type} (us ws : List α) : List α := match us, ws with
  | [], [x, y] => [y, x]
  | _, _ => []
structure CalK2 (P : Program) (w : World) (K : PySem.W.Frag) (mg : Str → Option Value) (base : Heap) (k : Nat) (x : Str) (sp : Sp) (p1 p2 : Str) : Prop where
  ex : ∃ (f : Addr) (fd : FuncData), FnOk P w K mg base C8.CX0 k f fd [p1, p2] sp ∧ mg x = some (.ref f) ∧ PySem.W.keepIn K (.ref f) = true ∧ KBinds K fd [p1, p2] [p2, p1] kwG kwG
theorem kw2_of {K : PySem.W.Frag} {x qual : Str} {params : Arguments} {body : List Stmt} {scope : Scope} {kws : List (Str × V)} {f : Addr} {fd : FuncData} {p1 p2 : Str} (F : FunD K x qual params body scope [] kws f fd)
    (h : ∀ (kV doc pm : Value) (an : Option Addr) (cdv ct : Value) (u v : Value), bindArgs (PySem.W.fnOf x qual params body scope .none kV doc pm an cdv ct) ⟨[], [(p2, u), (p1, v)]⟩ = pure [(p1, v), (p2, u)]) : KBinds K fd [p1, p2] [p2, p1] kwG kwG := by
  obtain ⟨oc, od, dV, kV, doc, pm, an, cdv, ct, osl, rfl, lk, hcd, hD, hK⟩ := F.ex
  rcases hD with ⟨_, rfl⟩ | ⟨e, _⟩
  · refine ⟨fun s us ws X hl => ?_, fun {vs us zs ws} r1 r2 => ?_⟩
    · match us, ws, hl with
      | [], [u, v], _ => exact .of_eq (h kV doc pm an cdv ct u v)
    · cases r1 with
      | nil =>
        cases r2 with
        | nil => exact .nil
        | cons a r2 =>
          cases r2 with
          | nil => exact .nil
          | cons b r2 =>
            cases r2 with
            | nil => exact .cons b (.cons a .nil)
            | cons c r2 => exact .nil
      | cons a r1 => exact .nil
  · exact absurd rfl e
theorem pe_kw2 {X : Cx} {k j : Nat} {x p1 p2 : Str} {sp : Sp} {p pos : Pos} {kws : List Keyword} {tk : TA} (c : CalK2 X.prog X.w X.K X.mg X.base k x sp p1 p2) (hr : Room j X.A) (hk : k ≤ j) (hg : Gl X x) (hkw : PK X kws tk)
    (hall : (backToKw pos (keywordEach kws X.env)).all (·.1.isSome) = true := by rfl) (hks : (backToKw pos (keywordEach kws X.env)).filterMap (·.1) = [p2, p1] := by rfl) (hdb : (x == ("__debug__" : Str)) = false := by decide)
    (hpl : ((backTo pos (starEach [] X.env)).any (·.1) || (backToKw pos (keywordEach kws X.env)).any (·.1.isNone)) = false := by rfl) : PE X (.Call (.Name x p) [] kws pos) (tCallK sp kwG C8.E0 tNil tk) := by
  obtain ⟨f, fd, F, hm, kp, hb⟩ := c.ex
  refine ⟨fun pins s σ H Q I h => ?_⟩
  refine wpAny_Call_Name_kw (ld_glob I hg hm ?_ hdb)
  refine PySem.W.callWith_KW0 (h₀ := X.base) I.ok.mod.kin kp hall (thn (hkw.run pos pins s σ H _ I h) fun ws s2 ⟨zs, H2, I2, rz, q2⟩ => ⟨I2.kIn, ?_⟩) hpl
  rw [hks]
  exact run_fnk (us := []) F (hr.mono hk) hb C8.pass0 I2 .nil rz q2
end My
namespace My
open PySem PySem.Spec PyProof.Rows L2 StX
/-! ### C(e, *ys); C(e, .., k = v, ..) -/
section
variable {X : Cx} {K : PySem.W.Frag} {k j n : Nat} {C : Addr} {x : Str} {sp : Sp} {dvs : List V} {p pos sp_ : Pos} {e : Expr} {es : List Expr} {te : TE} {t tk : TA} {kws : List Keyword} {ks : List Str} {gV : List V → List V → List V}
theorem pa_starK (h : X.K = K) (he : PE X e te) (hr : PA X es t) (hs : starEach (.Starred e sp_ :: es) X.env = (true, eval e X.env) :: starEach es X.env := by rfl) : PA X (.Starred e sp_ :: es) (tStar K te t) := by subst h; exact pa_star he hr hs
theorem pe_mkS2 (c : C8.Mak X.prog X.w X.K X.mg X.base k x C sp dvs) (hr : Room j X.A) (hk : k + 1 ≤ j) (hg : Gl X x) (ha : PA X (e :: es) t) (hdb : (x == ("__debug__" : Str)) = false := by decide)
    (he : starEach (e :: es) X.env = (false, eval e X.env) :: starEach es X.env := by rfl) (hst : (backTo pos (starEach es X.env)).any (·.1) = true := by rfl) : PE X (.Call (.Name x p) (e :: es) [] pos) (tMake C sp dvs C8.E0 t) := by
  obtain ⟨f, fd, ps, ds, M, F, hm, b, d⟩ := c.ex
  refine ⟨fun pins s σ H Q I h => ?_⟩
  refine wpAny_Call_Name_kw (ld_glob I hg hm ?_ hdb)
  refine PySem.W.callWith_S2 (h₀ := X.base) I.ok.mod.kin M.kp (thn (ha.run pos pins s σ H _ I h) fun us s1 ⟨vs, H1, I1, r, q⟩ => ⟨I1.kIn, ?_⟩) he hst
  exact run_make M F (hr.mono hk) b d C8.pass0 I1 r q
structure MakN (P : Program) (w : World) (K : PySem.W.Frag) (mg : Str → Option Value) (base : Heap) (k : Nat) (x : Str) (C : Addr) (sp : Sp) (n : Nat) (ks : List Str) (gV : List V → List V → List V) : Prop where
  ex : ∃ (f : Addr) (fd : FuncData) (ps : List Str) (g : List Value → List Value → List Value), Mk K C f ∧ FnOk P w K mg base C8.CX0 k f fd ps sp ∧ mg x = some (.ref C) ∧ KBn K fd ps (n + 1) ks g gV
theorem pe_mkN (c : MakN X.prog X.w X.K X.mg X.base k x C sp n ks gV) (hr : Room j X.A) (hk : k + 1 ≤ j) (hg : Gl X x) (ha : PA X (e :: es) t) (hkw : PK X kws tk)
    (hall : (backToKw pos (keywordEach kws X.env)).all (·.1.isSome) = true := by rfl) (hks : (backToKw pos (keywordEach kws X.env)).filterMap (·.1) = ks := by rfl)
    (hdb : (x == ("__debug__" : Str)) = false := by decide) (he : starEach (e :: es) X.env = (false, eval e X.env) :: starEach es X.env := by rfl)
    (hpl : ((backTo pos (starEach (e :: es) X.env)).any (·.1) || (backToKw pos (keywordEach kws X.env)).any (·.1.isNone)) = false := by rfl) : PE X (.Call (.Name x p) (e :: es) kws pos) (tMakeN C n ks.length sp gV C8.E0 t tk) := by
  obtain ⟨f, fd, ps, g, M, F, hm, hb⟩ := c.ex
  exact pe_makeN M F (hr.mono hk) hg hm hb C8.pass0 ha hkw hall hks hdb he hpl
end
theorem vals_drop : ∀ {vs : List V} {us : List Value} (n : Nat), Vals vs us → Vals (vs.drop n) (us.drop n)
  | _, _, 0, h => h
  | _, _, _ + 1, .nil => .nil
  | _, _, n + 1, .cons _ t => vals_drop n t
end My
namespace My
open PySem PySem.Spec PyProof.Rows L2
/-! ### sorted of a dict, all its keys ints, as many as there are -/
def rSortW : List V → Hp → VK → Prop := fun ws H Q => ∃ (d : Addr) (pairs : List (Key × V)) (ns : List Int), ws = [.ref d] ∧ Rd H d (.dK pairs) ∧ pairs.map (·.1) = ns.map Sum.inl ∧ ns.length ≤ sizeLine ∧
  ∀ (zs : List Int) (q : Addr), zs.Perm ns → zs.Pairwise (· ≤ ·) → H q = none → Q (.ref q) (upd H q (.lst (zs.map V.int)))
section
variable {X : Cx}
theorem sortedW (calm : X.calm = true) : CallR X (.builtin "sorted") rSortW := by
  intro pins st σ H ws us Q inv rel ⟨d, pairs, ns, ew, rd, ek, hz, cont⟩
  subst ew
  obtain ⟨u, eu, ru⟩ := vals1 rel
  subst eu
  cases ru
  obtain ⟨_, lo, kv, rl, dd⟩ := dk_rd inv.hok rd
  obtain ⟨ep, at1⟩ := dd.dictAt
  have keys : kv.map (·.1) = ns.map Sum.inl := rl.keys.symm.trans ek
  have len : kv.length = ns.length := by
    have := congrArg List.length keys
    simpa using this
  refine Calls.call_function_entry kind_sorted plain_sorted entry_sorted (args_sorted1 _) ?_
  unfold Builtin.«sorted»
  refine wpAny_bind (m := checkCount "sorted" 1 1 _) (wpAny_pure ?_)
  refine wpAny_bind (PySem.W.kdu_collect (A := X.A.in1) (PySem.W.kdl_dict (knd := mixKind X.prog X.w) (kvs := kv) (ep := ep) lo) (inv.ok.hd calm) at1 (by rw [len]; exact hz) fun h2 tk got keep hgot => ?_)
  have glen : got.toList.length = ns.length := by rw [Array.length_toList, hgot.1, len]
  have allI : IntsAre got.toList ns := ints_each glen fun j v e => by
    obtain ⟨k, _, e1, e2⟩ := hgot.2 j v (by rw [← Array.getElem?_toList]; exact e)
    have e3 : (ns.map (Sum.inl : Int → Key))[j]? = some k := by rw [← keys, List.getElem?_map, e1]; rfl
    rw [List.getElem?_map] at e3
    cases e4 : ns[j]? with
    | none =>
      rw [e4] at e3
      cases e3
    | some y =>
      rw [e4] at e3
      cases e3
      rcases keyIs_shape (show keyIs (Sum.inl y) v = true from e2) with ⟨i, t, ek, ev⟩ | ⟨z, t, ek, _⟩
      · cases ek
        exact ⟨y, t, rfl, ev⟩
      · cases ek
  have inv2 : Inv X pins σ H { st with heap := h2, toks := tk } := inv.kept keep
  refine wpAny_bind (wpAny_newList ?_ (by rw [glen]; exact hz))
  have here : (h2.push (seqObj "list" got.toList.toArray 0)).get? h2.objs.size = some (seqObj "list" got.toList.toArray 0) := Heap.get?_push_size _ rfl
  show wpAny _ _ _ _ _ { st with heap := h2.push (seqObj "list" got.toList.toArray 0), toks := tk }
  refine wpAny_bind (wpAny_holding (wpAny_call_entry slot_list_sort ⟨_, here, rfl⟩ entry_list_sort (SrtO.list_sort_ord SrtO.swo_int here (by rw [glen]; exact hz) (fun two => SrtO.ints_sortable allI two) fun out o1 o2 => ⟨_, rfl, ?_⟩) (args_list_sort _)))
  obtain ⟨w1, w2, w3⟩ := SrtO.ints_out allI o1 o2
  obtain ⟨ep2, at2⟩ := sortedHeap_at (vs := got.toList) (out := out.toArray) here
  have fits : ((out.map SrtO.iv).map V.int).length ≤ sizeLine := by
    rw [List.length_map, w2.length_eq]
    exact hz
  refine wpAny_pure ⟨_, rfl, .ref h2.objs.size, _, inv2.laid (t' := tk) (fun b o e => ?_) (Nat.le_refl _) (show ObjOk X.prog X.w _ _ _ (.lst ((out.map SrtO.iv).map V.int)) from ⟨fits, out, ep2, vals_of_ints w1, at2⟩), rfl, cont _ _ w2 w3 (inv2.hok.fresh (Nat.le_refl _))⟩
  have lt : b < h2.objs.size := Heap.lt_size e
  rw [sortedHeap_old (Nat.ne_of_lt lt) (by rw [size_push']; exact Nat.lt_succ_of_lt lt)]
  exact Heap.get?_push_of_some _ e
end
end My
set_option maxHeartbeats 0
namespace K32
open PySem PySem.Spec PyProof.Rows L2
def top (i : Nat) : Stmt := PySem.Challenge.pw_lockerwall_k32_whole_beginnings.main.body.getD i (.Pass ⟨0, 0, 0, 0⟩)
abbrev s_wall : Stmt := top 0
abbrev N_wall : List Str := ["k"]
theorem sc_wall : FnScope N_wall ["k"] (defScope s_wall) := C8.fnScope_by (by decide +kernel)
def d_wall : He.DefD := ⟨("_wall", none), "_wall", "_wall", defArgs s_wall, defBody s_wall, defScope s_wall, [], []⟩
abbrev s_Told_init : Stmt := inClass (top 2) 0
abbrev N_Told_init : List Str := ["self"]
theorem sc_Told_init : FnScope N_Told_init ["self"] (defScope s_Told_init) := C8.fnScope_by (by decide +kernel)
def d_Told_init : He.DefD := ⟨("Told", some "__init__"), "__init__", "Told.__init__", defArgs s_Told_init, defBody s_Told_init, defScope s_Told_init, [], []⟩
abbrev s_Told_report : Stmt := inClass (top 2) 1
abbrev N_Told_report : List Str := ["self"]
theorem sc_Told_report : FnScope N_Told_report ["self"] (defScope s_Told_report) := C8.fnScope_by (by decide +kernel)
def d_Told_report : He.DefD := ⟨("Told", some "report"), "report", "Told.report", defArgs s_Told_report, defBody s_Told_report, defScope s_Told_report, [], []⟩
abbrev s_Box_init : Stmt := inClass (top 3) 0
abbrev N_Box_init : List Str := ["self"]
theorem sc_Box_init : FnScope N_Box_init ["self"] (defScope s_Box_init) := C8.fnScope_by (by decide +kernel)
def d_Box_init : He.DefD := ⟨("Box", some "__init__"), "__init__", "Box.__init__", defArgs s_Box_init, defBody s_Box_init, defScope s_Box_init, [], []⟩
abbrev s_Box_copied : Stmt := inClass (top 3) 1
abbrev N_Box_copied : List Str := ["self"]
theorem sc_Box_copied : FnScope N_Box_copied ["self"] (defScope s_Box_copied) := C8.fnScope_by (by decide +kernel)
def d_Box_copied : He.DefD := ⟨("Box", some "copied"), "copied", "Box.copied", defArgs s_Box_copied, defBody s_Box_copied, defScope s_Box_copied, [], []⟩
abbrev s_Box_stands : Stmt := inClass (top 3) 2
abbrev N_Box_stands : List Str := ["self"]
theorem sc_Box_stands : FnScope N_Box_stands ["self"] (defScope s_Box_stands) := C8.fnScope_by (by decide +kernel)
def d_Box_stands : He.DefD := ⟨("Box", some "stands"), "stands", "Box.stands", defArgs s_Box_stands, defBody s_Box_stands, defScope s_Box_stands, [], []⟩
abbrev s_Box_bring : Stmt := inClass (top 3) 3
abbrev N_Box_bring : List Str := ["self", "book", "parcel", "lays", "shuts", "told"]
theorem sc_Box_bring : FnScope N_Box_bring ["self", "book", "parcel", "lays", "shuts"] (defScope s_Box_bring) := C8.fnScope_by (by decide +kernel)
def d_Box_bring : He.DefD := ⟨("Box", some "bring"), "bring", "Box.bring", defArgs s_Box_bring, defBody s_Box_bring, defScope s_Box_bring, [], []⟩
abbrev s_Box_code : Stmt := inClass (top 3) 4
abbrev N_Box_code : List Str := ["self", "book", "parcel", "takes", "shuts", "told", "missing"]
theorem sc_Box_code : FnScope N_Box_code ["self", "book", "parcel", "takes", "shuts"] (defScope s_Box_code) := C8.fnScope_by (by decide +kernel)
def d_Box_code : He.DefD := ⟨("Box", some "code"), "code", "Box.code", defArgs s_Box_code, defBody s_Box_code, defScope s_Box_code, [], []⟩
abbrev s_Box_pass_by : Stmt := inClass (top 3) 5
abbrev N_Box_pass_by : List Str := ["self", "told"]
theorem sc_Box_pass_by : FnScope N_Box_pass_by ["self"] (defScope s_Box_pass_by) := C8.fnScope_by (by decide +kernel)
def d_Box_pass_by : He.DefD := ⟨("Box", some "pass_by"), "pass_by", "Box.pass_by", defArgs s_Box_pass_by, defBody s_Box_pass_by, defScope s_Box_pass_by, [], []⟩
abbrev s_Box_day : Stmt := inClass (top 3) 6
abbrev N_Box_day : List Str := ["self", "book", "told"]
theorem sc_Box_day : FnScope N_Box_day ["self", "book"] (defScope s_Box_day) := C8.fnScope_by (by decide +kernel)
def d_Box_day : He.DefD := ⟨("Box", some "day"), "day", "Box.day", defArgs s_Box_day, defBody s_Box_day, defScope s_Box_day, [], []⟩
abbrev s_Box_power : Stmt := inClass (top 3) 7
abbrev N_Box_power : List Str := ["self", "book", "told"]
theorem sc_Box_power : FnScope N_Box_power ["self", "book"] (defScope s_Box_power) := C8.fnScope_by (by decide +kernel)
def d_Box_power : He.DefD := ⟨("Box", some "power"), "power", "Box.power", defArgs s_Box_power, defBody s_Box_power, defScope s_Box_power, [], []⟩
abbrev s_Box_let_take : Stmt := inClass (top 3) 8
abbrev N_Box_let_take : List Str := ["self", "own", "told", "parcel"]
theorem sc_Box_let_take : FnScope N_Box_let_take ["self", "own", "told"] (defScope s_Box_let_take) := C8.fnScope_by (by decide +kernel)
def d_Box_let_take : He.DefD := ⟨("Box", some "_let_take"), "_let_take", "Box._let_take", defArgs s_Box_let_take, defBody s_Box_let_take, defScope s_Box_let_take, [], []⟩
abbrev s_Box_go_away : Stmt := inClass (top 3) 9
abbrev N_Box_go_away : List Str := ["self", "book", "shuts", "moments", "told", "when_shut", "when_left"]
theorem sc_Box_go_away : FnScope N_Box_go_away ["self", "book", "shuts", "moments", "told"] (defScope s_Box_go_away) := C8.fnScope_by (by decide +kernel)
def d_Box_go_away : He.DefD := ⟨("Box", some "_go_away"), "_go_away", "Box._go_away", defArgs s_Box_go_away, defBody s_Box_go_away, defScope s_Box_go_away, [], []⟩
abbrev s_Box_carry_out : Stmt := inClass (top 3) 10
abbrev N_Box_carry_out : List Str := ["self", "book", "moment", "told", "action"]
theorem sc_Box_carry_out : FnScope N_Box_carry_out ["self", "book", "moment", "told"] (defScope s_Box_carry_out) := C8.fnScope_by (by decide +kernel)
def d_Box_carry_out : He.DefD := ⟨("Box", some "_carry_out"), "_carry_out", "Box._carry_out", defArgs s_Box_carry_out, defBody s_Box_carry_out, defScope s_Box_carry_out, [], []⟩
abbrev s_Box_act : Stmt := inClass (top 3) 11
abbrev N_Box_act : List Str := ["self", "action", "told"]
theorem sc_Box_act : FnScope N_Box_act ["self", "action", "told"] (defScope s_Box_act) := C8.fnScope_by (by decide +kernel)
def d_Box_act : He.DefD := ⟨("Box", some "_act"), "_act", "Box._act", defArgs s_Box_act, defBody s_Box_act, defScope s_Box_act, [], []⟩
abbrev s_Box_send_code : Stmt := inClass (top 3) 12
abbrev N_Box_send_code : List Str := ["self", "told"]
theorem sc_Box_send_code : FnScope N_Box_send_code ["self", "told"] (defScope s_Box_send_code) := C8.fnScope_by (by decide +kernel)
def d_Box_send_code : He.DefD := ⟨("Box", some "_send_code"), "_send_code", "Box._send_code", defArgs s_Box_send_code, defBody s_Box_send_code, defScope s_Box_send_code, [], []⟩
abbrev s_do_deed : Stmt := top 4
abbrev N_do_deed : List Str := ["book", "box", "deed", "parcel", "word"]
theorem sc_do_deed : FnScope N_do_deed ["book", "box", "deed", "parcel"] (defScope s_do_deed) := C8.fnScope_by (by decide +kernel)
def d_do_deed : He.DefD := ⟨("do_deed", none), "do_deed", "do_deed", defArgs s_do_deed, defBody s_do_deed, defScope s_do_deed, [], []⟩
abbrev s_is_integer_within : Stmt := top 6
abbrev N_is_integer_within : List Str := ["value", "low", "high"]
theorem sc_is_integer_within : FnScope N_is_integer_within ["value", "low", "high"] (defScope s_is_integer_within) := C8.fnScope_by (by decide +kernel)
def d_is_integer_within : He.DefD := ⟨("is_integer_within", none), "is_integer_within", "is_integer_within", defArgs s_is_integer_within, defBody s_is_integer_within, defScope s_is_integer_within, [], []⟩
abbrev s_is_truth : Stmt := top 7
abbrev N_is_truth : List Str := ["value"]
theorem sc_is_truth : FnScope N_is_truth ["value"] (defScope s_is_truth) := C8.fnScope_by (by decide +kernel)
def d_is_truth : He.DefD := ⟨("is_truth", none), "is_truth", "is_truth", defArgs s_is_truth, defBody s_is_truth, defScope s_is_truth, [], []⟩
abbrev s_is_word : Stmt := top 8
abbrev N_is_word : List Str := ["value", "words"]
theorem sc_is_word : FnScope N_is_word ["value", "words"] (defScope s_is_word) := C8.fnScope_by (by decide +kernel)
def d_is_word : He.DefD := ⟨("is_word", none), "is_word", "is_word", defArgs s_is_word, defBody s_is_word, defScope s_is_word, [], []⟩
abbrev s_are_truths : Stmt := top 19
abbrev N_are_truths : List Str := ["values", "value"]
theorem sc_are_truths : FnScope N_are_truths ["values"] (defScope s_are_truths) := C8.fnScope_by (by decide +kernel)
def d_are_truths : He.DefD := ⟨("are_truths", none), "are_truths", "are_truths", defArgs s_are_truths, defBody s_are_truths, defScope s_are_truths, [], []⟩
abbrev s_is_deed : Stmt := top 20
abbrev N_is_deed : List Str := ["value", "word"]
theorem sc_is_deed : FnScope N_is_deed ["value"] (defScope s_is_deed) := C8.fnScope_by (by decide +kernel)
def d_is_deed : He.DefD := ⟨("is_deed", none), "is_deed", "is_deed", defArgs s_is_deed, defBody s_is_deed, defScope s_is_deed, [], []⟩
abbrev s_check_are_deeds : Stmt := top 21
abbrev N_check_are_deeds : List Str := ["deeds", "index", "deed"]
theorem sc_check_are_deeds : FnScope N_check_are_deeds ["deeds"] (defScope s_check_are_deeds) := C8.fnScope_by (by decide +kernel)
def d_check_are_deeds : He.DefD := ⟨("check_are_deeds", none), "check_are_deeds", "check_are_deeds", defArgs s_check_are_deeds, defBody s_check_are_deeds, defScope s_check_are_deeds, [], []⟩
abbrev s_check_playable : Stmt := top 22
abbrev N_check_playable : List Str := ["deeds", "brought", "index", "deed"]
theorem sc_check_playable : FnScope N_check_playable ["deeds"] (defScope s_check_playable) := C8.fnScope_by (by decide +kernel)
def d_check_playable : He.DefD := ⟨("check_playable", none), "check_playable", "check_playable", defArgs s_check_playable, defBody s_check_playable, defScope s_check_playable, [], []⟩
abbrev s_played : Stmt := top 24
abbrev N_played : List Str := ["book", "deeds", "box", "brought", "story", "deed"]
theorem sc_played : FnScope N_played ["book", "deeds"] (defScope s_played) := C8.fnScope_by (by decide +kernel)
def d_played : He.DefD := ⟨("played", none), "played", "played", defArgs s_played, defBody s_played, defScope s_played, [], []⟩
abbrev s_play : Stmt := top 25
abbrev N_play : List Str := ["book", "deeds", "_", "story", "told"]
theorem sc_play : FnScope N_play ["book", "deeds"] (defScope s_play) := C8.fnScope_by (by decide +kernel)
def d_play : He.DefD := ⟨("play", none), "play", "play", defArgs s_play, defBody s_play, defScope s_play, [], []⟩
abbrev s_faults : Stmt := top 26
abbrev N_faults : List Str := ["book", "deeds", "_", "story", "index", "told", "kind"]
theorem sc_faults : FnScope N_faults ["book", "deeds"] (defScope s_faults) := C8.fnScope_by (by decide +kernel)
def d_faults : He.DefD := ⟨("faults", none), "faults", "faults", defArgs s_faults, defBody s_faults, defScope s_faults, [], []⟩
abbrev s_is_rule : Stmt := top 32
abbrev N_is_rule : List Str := ["value", "action"]
theorem sc_is_rule : FnScope N_is_rule ["value"] (defScope s_is_rule) := C8.fnScope_by (by decide +kernel)
def d_is_rule : He.DefD := ⟨("is_rule", none), "is_rule", "is_rule", defArgs s_is_rule, defBody s_is_rule, defScope s_is_rule, [], []⟩
abbrev s_Book_init : Stmt := inClass (top 33) 0
abbrev N_Book_init : List Str := ["self", "days", "given", "laid", "left", "opened", "taken", "gone", "late", "power", "rules", "moment", "rule"]
theorem sc_Book_init : FnScope N_Book_init ["self", "days", "given", "laid", "left", "opened", "taken", "gone", "late", "power"] (defScope s_Book_init) := C8.fnScope_by (by decide +kernel)
def d_Book_init : He.DefD := ⟨("Book", some "__init__"), "__init__", "Book.__init__", defArgs s_Book_init, defBody s_Book_init, defScope s_Book_init, [.adr (He.dflAt ("Book", some "__init__") 0), .adr (He.dflAt ("Book", some "__init__") 1), .adr (He.dflAt ("Book", some "__init__") 2), .adr (He.dflAt ("Book", some "__init__") 3), .adr (He.dflAt ("Book", some "__init__") 4), .adr (He.dflAt ("Book", some "__init__") 5), .adr (He.dflAt ("Book", some "__init__") 6), .adr (He.dflAt ("Book", some "__init__") 7)], []⟩
abbrev s_Book_eq : Stmt := inClass (top 33) 1
abbrev N_Book_eq : List Str := ["self", "other"]
theorem sc_Book_eq : FnScope N_Book_eq ["self", "other"] (defScope s_Book_eq) := C8.fnScope_by (by decide +kernel)
def d_Book_eq : He.DefD := ⟨("Book", some "__eq__"), "__eq__", "Book.__eq__", defArgs s_Book_eq, defBody s_Book_eq, defScope s_Book_eq, [], []⟩
abbrev s_Book_days : Stmt := inClass (top 33) 2
abbrev N_Book_days : List Str := ["self"]
theorem sc_Book_days : FnScope N_Book_days ["self"] (defScope s_Book_days) := C8.fnScope_by (by decide +kernel)
def d_Book_days : He.DefD := ⟨("Book", some "days"), "days", "Book.days", defArgs s_Book_days, defBody s_Book_days, defScope s_Book_days, [], []⟩
abbrev s_Book_rule : Stmt := inClass (top 33) 3
abbrev N_Book_rule : List Str := ["self", "moment"]
theorem sc_Book_rule : FnScope N_Book_rule ["self", "moment"] (defScope s_Book_rule) := C8.fnScope_by (by decide +kernel)
def d_Book_rule : He.DefD := ⟨("Book", some "rule"), "rule", "Book.rule", defArgs s_Book_rule, defBody s_Book_rule, defScope s_Book_rule, [], []⟩
abbrev s_Book_rules : Stmt := inClass (top 33) 4
abbrev N_Book_rules : List Str := ["self"]
theorem sc_Book_rules : FnScope N_Book_rules ["self"] (defScope s_Book_rules) := C8.fnScope_by (by decide +kernel)
def d_Book_rules : He.DefD := ⟨("Book", some "rules"), "rules", "Book.rules", defArgs s_Book_rules, defBody s_Book_rules, defScope s_Book_rules, [], []⟩
abbrev s_Book_with_rule : Stmt := inClass (top 33) 5
abbrev N_Book_with_rule : List Str := ["self", "moment", "rule", "rules"]
theorem sc_Book_with_rule : FnScope N_Book_with_rule ["self", "moment", "rule"] (defScope s_Book_with_rule) := C8.fnScope_by (by decide +kernel)
def d_Book_with_rule : He.DefD := ⟨("Book", some "with_rule"), "with_rule", "Book.with_rule", defArgs s_Book_with_rule, defBody s_Book_with_rule, defScope s_Book_with_rule, [], []⟩
abbrev s_Book_with_days : Stmt := inClass (top 33) 6
abbrev N_Book_with_days : List Str := ["self", "days"]
theorem sc_Book_with_days : FnScope N_Book_with_days ["self", "days"] (defScope s_Book_with_days) := C8.fnScope_by (by decide +kernel)
def d_Book_with_days : He.DefD := ⟨("Book", some "with_days"), "with_days", "Book.with_days", defArgs s_Book_with_days, defBody s_Book_with_days, defScope s_Book_with_days, [], []⟩
abbrev s_Book_taking : Stmt := inClass (top 33) 7
abbrev N_Book_taking : List Str := ["self", "good", "moments"]
theorem sc_Book_taking : FnScope N_Book_taking ["self", "good", "moments"] (defScope s_Book_taking) := C8.fnScope_by (by decide +kernel)
def d_Book_taking : He.DefD := ⟨("Book", some "taking"), "taking", "Book.taking", defArgs s_Book_taking, defBody s_Book_taking, defScope s_Book_taking, [], []⟩
abbrev s_law_spring : Stmt := top 35
abbrev N_law_spring : List Str := ["script", "k", "cell"]
theorem sc_law_spring : FnScope N_law_spring ["script", "k"] (defScope s_law_spring) := C8.fnScope_by (by decide +kernel)
def d_law_spring : He.DefD := ⟨("_law_spring", none), "_law_spring", "_law_spring", defArgs s_law_spring, defBody s_law_spring, defScope s_law_spring, [], []⟩
abbrev s_law_drop : Stmt := top 36
abbrev N_law_drop : List Str := ["spring", "many", "found", "stirred"]
theorem sc_law_drop : FnScope N_law_drop ["spring", "many"] (defScope s_law_drop) := C8.fnScope_by (by decide +kernel)
def d_law_drop : He.DefD := ⟨("_law_drop", none), "_law_drop", "_law_drop", defArgs s_law_drop, defBody s_law_drop, defScope s_law_drop, [], []⟩
abbrev s_law_springs : Stmt := top 37
abbrev N_law_springs : List Str := ["script", "k"]
theorem sc_law_springs : FnScope N_law_springs ["script"] (defScope s_law_springs) := C8.fnScope_by (by decide +kernel)
def d_law_springs : He.DefD := ⟨("_law_springs", none), "_law_springs", "_law_springs", defArgs s_law_springs, defBody s_law_springs, defScope s_law_springs, [], []⟩
abbrev s_law_rule : Stmt := top 38
abbrev N_law_rule : List Str := ["spring", "words", "most", "k"]
theorem sc_law_rule : FnScope N_law_rule ["spring", "words", "most"] (defScope s_law_rule) := C8.fnScope_by (by decide +kernel)
def d_law_rule : He.DefD := ⟨("_law_rule", none), "_law_rule", "_law_rule", defArgs s_law_rule, defBody s_law_rule, defScope s_law_rule, [], []⟩
abbrev s_law_rules : Stmt := top 39
abbrev N_law_rules : List Str := ["spring", "words", "some", "turn"]
theorem sc_law_rules : FnScope N_law_rules ["spring"] (defScope s_law_rules) := C8.fnScope_by (by decide +kernel)
def d_law_rules : He.DefD := ⟨("_law_rules", none), "_law_rules", "_law_rules", defArgs s_law_rules, defBody s_law_rules, defScope s_law_rules, [], []⟩
abbrev s_law_deed : Stmt := top 40
abbrev N_law_deed : List Str := ["spring", "brought", "way", "back"]
theorem sc_law_deed : FnScope N_law_deed ["spring", "brought"] (defScope s_law_deed) := C8.fnScope_by (by decide +kernel)
def d_law_deed : He.DefD := ⟨("_law_deed", none), "_law_deed", "_law_deed", defArgs s_law_deed, defBody s_law_deed, defScope s_law_deed, [], []⟩
abbrev s_law_deeds : Stmt := top 41
abbrev N_law_deeds : List Str := ["springs", "acts", "brought", "spring", "turn"]
theorem sc_law_deeds : FnScope N_law_deeds ["springs"] (defScope s_law_deeds) := C8.fnScope_by (by decide +kernel)
def d_law_deeds : He.DefD := ⟨("_law_deeds", none), "_law_deeds", "_law_deeds", defArgs s_law_deeds, defBody s_law_deeds, defScope s_law_deeds, [], []⟩
abbrev s_law_made : Stmt := top 42
abbrev N_law_made : List Str := ["limit", "rules", "more"]
theorem sc_law_made : FnScope N_law_made ["limit", "rules"] (defScope s_law_made) := C8.fnScope_by (by decide +kernel)
def d_law_made : He.DefD := ⟨("_law_made", none), "_law_made", "_law_made", defArgs s_law_made, defBody s_law_made, defScope s_law_made, [], []⟩
abbrev s_law : Stmt := top 43
abbrev N_law : List Str := ["script", "springs", "first", "limit", "rules", "work", "acts", "cut", "early", "early_faults", "reports", "wrong", "one", "turn", "row"]
theorem sc_law : FnScope N_law ["script"] (defScope s_law) := C8.fnScope_by (by decide +kernel)
def d_law : He.DefD := ⟨("law", none), "law", "law", defArgs s_law, defBody s_law, defScope s_law, [], []⟩
def fa0 : List He.Fa := [.glo "_wall", .glo "do_deed", .glo "is_integer_within", .glo "is_truth", .glo "is_word", .glo "are_truths", .glo "is_deed", .glo "check_are_deeds", .glo "check_playable", .glo "played", .glo "play", .glo "faults", .glo "is_rule", .glo "_law_spring", .glo "_law_drop", .glo "_law_springs", .glo "_law_rule", .glo "_law_rules", .glo "_law_deed", .glo "_law_deeds"]
def fa1 : List He.Fa := [.glo "_law_made", .glo "law", .glo "Told", .glo "Box", .glo "Book", .glo "WallError", .glo "NoDays", .glo "NoRule", .glo "NoMoment", .glo "NoDeed", .glo "NoParcel", .int "MOST_PARCEL" 1000000000, .glo "SINGLE_WORDS", .glo "ACTIONS", .glo "MOMENTS", .int "MOST_ACTIONS" 6, .int "MOST_DAYS" 30, .free "len", .free "abs", .free "max"]
def fa2 : List He.Fa := [.free "min", .free "isinstance", .free "all", .free "any", .free "zip", .free "enumerate", .free "super", .free "ValueError", .free "int", .free "str", .free "bool", .free "list", .free "tuple", .free "range", .cls "Told", .noat "Told" "letters", .noat "Told" "opened", .noat "Told" "got", .noat "Told" "lays", .noat "Told" "wrongs"]
def fa3 : List He.Fa := [.noat "Told" "moments", .meth "Told" "report", .mkr "Told", .cls "Box", .noat "Box" "ajar", .noat "Box" "inside", .noat "Box" "taken_for", .noat "Box" "valid", .noat "Box" "age", .noat "Box" "last", .noat "Box" "sent", .noat "Box" "served", .meth "Box" "copied", .meth "Box" "stands", .meth "Box" "bring", .meth "Box" "code", .meth "Box" "pass_by", .meth "Box" "day", .meth "Box" "power", .meth "Box" "_let_take"]
def fa4 : List He.Fa := [.meth "Box" "_go_away", .meth "Box" "_carry_out", .meth "Box" "_act", .meth "Box" "_send_code", .mkr "Box", .cls "Book", .noat "Book" "_days", .noat "Book" "_rules", .meth "Book" "__eq__", .meth "Book" "days", .meth "Book" "rule", .meth "Book" "rules", .meth "Book" "with_rule", .meth "Book" "with_days", .meth "Book" "taking", .mkr "Book"]
def fa : List He.Fa := fa0 ++ fa1 ++ fa2 ++ fa3 ++ fa4
def fn0 : List He.DefD := [d_wall, d_Told_init, d_Told_report, d_Box_init, d_Box_copied, d_Box_stands, d_Box_bring, d_Box_code, d_Box_pass_by, d_Box_day, d_Box_power, d_Box_let_take, d_Box_go_away, d_Box_carry_out, d_Box_act, d_Box_send_code, d_do_deed, d_is_integer_within, d_is_truth, d_is_word]
def fn1 : List He.DefD := [d_are_truths, d_is_deed, d_check_are_deeds, d_check_playable, d_played, d_play, d_faults, d_is_rule, d_Book_init, d_Book_eq, d_Book_days, d_Book_rule, d_Book_rules, d_Book_with_rule, d_Book_with_days, d_Book_taking, d_law_spring, d_law_drop, d_law_springs, d_law_rule]
def fn2 : List He.DefD := [d_law_rules, d_law_deed, d_law_deeds, d_law_made, d_law]
def fn : List He.DefD := fn0 ++ fn1 ++ fn2
def exl (K : PySem.W.Frag) : List Bool := [My.tupAt K (He.ga K "SINGLE_WORDS") [.str "pass", .str "day", .str "power"], My.tupAt K (He.ga K "ACTIONS") [.str "free", .str "full", .str "off", .str "code", .str "void", .str "look", .str "lock"], My.tupAt K (He.ga K "MOMENTS") [.str "given", .str "laid", .str "left", .str "opened", .str "taken", .str "gone", .str "late", .str "power"], My.tupAt K (He.dflAt ("Book", some "__init__") 0 K) [], My.tupAt K (He.dflAt ("Book", some "__init__") 1 K) [], My.tupAt K (He.dflAt ("Book", some "__init__") 2 K) [], My.tupAt K (He.dflAt ("Book", some "__init__") 3 K) [], My.tupAt K (He.dflAt ("Book", some "__init__") 4 K) [], My.tupAt K (He.dflAt ("Book", some "__init__") 5 K) [], My.tupAt K (He.dflAt ("Book", some "__init__") 6 K) [], My.tupAt K (He.dflAt ("Book", some "__init__") 7 K) []]
def ex (K : PySem.W.Frag) : Bool := (exl K).all id
structure Txt (K : PySem.W.Frag) (mg : Str → Option Value) : Prop where
  ex : ∃ h : Heap, K.In h ∧ h.Ns mainGlobals mg ∧ He.SaysD fa fn K ∧ ex K = true
section
variable {K : PySem.W.Frag} {mg : Str → Option Value}
theorem Txt.g_wall (T : Txt K mg) : mg "_wall" = some (.ref (He.ga K "_wall")) := by
  obtain ⟨h, X, G, c, _⟩ := T.ex
  exact He.glo_ok X G (c.fact 0 rfl)
theorem Txt.g_do_deed (T : Txt K mg) : mg "do_deed" = some (.ref (He.ga K "do_deed")) := by
  obtain ⟨h, X, G, c, _⟩ := T.ex
  exact He.glo_ok X G (c.fact 1 rfl)
theorem Txt.g_is_integer_within (T : Txt K mg) : mg "is_integer_within" = some (.ref (He.ga K "is_integer_within")) := by
  obtain ⟨h, X, G, c, _⟩ := T.ex
  exact He.glo_ok X G (c.fact 2 rfl)
theorem Txt.g_is_truth (T : Txt K mg) : mg "is_truth" = some (.ref (He.ga K "is_truth")) := by
  obtain ⟨h, X, G, c, _⟩ := T.ex
  exact He.glo_ok X G (c.fact 3 rfl)
theorem Txt.g_is_word (T : Txt K mg) : mg "is_word" = some (.ref (He.ga K "is_word")) := by
  obtain ⟨h, X, G, c, _⟩ := T.ex
  exact He.glo_ok X G (c.fact 4 rfl)
theorem Txt.g_are_truths (T : Txt K mg) : mg "are_truths" = some (.ref (He.ga K "are_truths")) := by
  obtain ⟨h, X, G, c, _⟩ := T.ex
  exact He.glo_ok X G (c.fact 5 rfl)
theorem Txt.g_is_deed (T : Txt K mg) : mg "is_deed" = some (.ref (He.ga K "is_deed")) := by
  obtain ⟨h, X, G, c, _⟩ := T.ex
  exact He.glo_ok X G (c.fact 6 rfl)
theorem Txt.g_check_are_deeds (T : Txt K mg) : mg "check_are_deeds" = some (.ref (He.ga K "check_are_deeds")) := by
  obtain ⟨h, X, G, c, _⟩ := T.ex
  exact He.glo_ok X G (c.fact 7 rfl)
theorem Txt.g_check_playable (T : Txt K mg) : mg "check_playable" = some (.ref (He.ga K "check_playable")) := by
  obtain ⟨h, X, G, c, _⟩ := T.ex
  exact He.glo_ok X G (c.fact 8 rfl)
theorem Txt.g_played (T : Txt K mg) : mg "played" = some (.ref (He.ga K "played")) := by
  obtain ⟨h, X, G, c, _⟩ := T.ex
  exact He.glo_ok X G (c.fact 9 rfl)
theorem Txt.g_play (T : Txt K mg) : mg "play" = some (.ref (He.ga K "play")) := by
  obtain ⟨h, X, G, c, _⟩ := T.ex
  exact He.glo_ok X G (c.fact 10 rfl)
theorem Txt.g_faults (T : Txt K mg) : mg "faults" = some (.ref (He.ga K "faults")) := by
  obtain ⟨h, X, G, c, _⟩ := T.ex
  exact He.glo_ok X G (c.fact 11 rfl)
theorem Txt.g_is_rule (T : Txt K mg) : mg "is_rule" = some (.ref (He.ga K "is_rule")) := by
  obtain ⟨h, X, G, c, _⟩ := T.ex
  exact He.glo_ok X G (c.fact 12 rfl)
theorem Txt.g_law_spring (T : Txt K mg) : mg "_law_spring" = some (.ref (He.ga K "_law_spring")) := by
  obtain ⟨h, X, G, c, _⟩ := T.ex
  exact He.glo_ok X G (c.fact 13 rfl)
theorem Txt.g_law_drop (T : Txt K mg) : mg "_law_drop" = some (.ref (He.ga K "_law_drop")) := by
  obtain ⟨h, X, G, c, _⟩ := T.ex
  exact He.glo_ok X G (c.fact 14 rfl)
theorem Txt.g_law_springs (T : Txt K mg) : mg "_law_springs" = some (.ref (He.ga K "_law_springs")) := by
  obtain ⟨h, X, G, c, _⟩ := T.ex
  exact He.glo_ok X G (c.fact 15 rfl)
theorem Txt.g_law_rule (T : Txt K mg) : mg "_law_rule" = some (.ref (He.ga K "_law_rule")) := by
  obtain ⟨h, X, G, c, _⟩ := T.ex
  exact He.glo_ok X G (c.fact 16 rfl)
theorem Txt.g_law_rules (T : Txt K mg) : mg "_law_rules" = some (.ref (He.ga K "_law_rules")) := by
  obtain ⟨h, X, G, c, _⟩ := T.ex
  exact He.glo_ok X G (c.fact 17 rfl)
theorem Txt.g_law_deed (T : Txt K mg) : mg "_law_deed" = some (.ref (He.ga K "_law_deed")) := by
  obtain ⟨h, X, G, c, _⟩ := T.ex
  exact He.glo_ok X G (c.fact 18 rfl)
theorem Txt.g_law_deeds (T : Txt K mg) : mg "_law_deeds" = some (.ref (He.ga K "_law_deeds")) := by
  obtain ⟨h, X, G, c, _⟩ := T.ex
  exact He.glo_ok X G (c.fact 19 rfl)
theorem Txt.g_law_made (T : Txt K mg) : mg "_law_made" = some (.ref (He.ga K "_law_made")) := by
  obtain ⟨h, X, G, c, _⟩ := T.ex
  exact He.glo_ok X G (c.fact 20 rfl)
theorem Txt.g_law (T : Txt K mg) : mg "law" = some (.ref (He.ga K "law")) := by
  obtain ⟨h, X, G, c, _⟩ := T.ex
  exact He.glo_ok X G (c.fact 21 rfl)
theorem Txt.g_Told (T : Txt K mg) : mg "Told" = some (.ref (He.ga K "Told")) := by
  obtain ⟨h, X, G, c, _⟩ := T.ex
  exact He.glo_ok X G (c.fact 22 rfl)
theorem Txt.g_Box (T : Txt K mg) : mg "Box" = some (.ref (He.ga K "Box")) := by
  obtain ⟨h, X, G, c, _⟩ := T.ex
  exact He.glo_ok X G (c.fact 23 rfl)
theorem Txt.g_Book (T : Txt K mg) : mg "Book" = some (.ref (He.ga K "Book")) := by
  obtain ⟨h, X, G, c, _⟩ := T.ex
  exact He.glo_ok X G (c.fact 24 rfl)
theorem Txt.g_WallError (T : Txt K mg) : mg "WallError" = some (.ref (He.ga K "WallError")) := by
  obtain ⟨h, X, G, c, _⟩ := T.ex
  exact He.glo_ok X G (c.fact 25 rfl)
theorem Txt.g_NoDays (T : Txt K mg) : mg "NoDays" = some (.ref (He.ga K "NoDays")) := by
  obtain ⟨h, X, G, c, _⟩ := T.ex
  exact He.glo_ok X G (c.fact 26 rfl)
theorem Txt.g_NoRule (T : Txt K mg) : mg "NoRule" = some (.ref (He.ga K "NoRule")) := by
  obtain ⟨h, X, G, c, _⟩ := T.ex
  exact He.glo_ok X G (c.fact 27 rfl)
theorem Txt.g_NoMoment (T : Txt K mg) : mg "NoMoment" = some (.ref (He.ga K "NoMoment")) := by
  obtain ⟨h, X, G, c, _⟩ := T.ex
  exact He.glo_ok X G (c.fact 28 rfl)
theorem Txt.g_NoDeed (T : Txt K mg) : mg "NoDeed" = some (.ref (He.ga K "NoDeed")) := by
  obtain ⟨h, X, G, c, _⟩ := T.ex
  exact He.glo_ok X G (c.fact 29 rfl)
theorem Txt.g_NoParcel (T : Txt K mg) : mg "NoParcel" = some (.ref (He.ga K "NoParcel")) := by
  obtain ⟨h, X, G, c, _⟩ := T.ex
  exact He.glo_ok X G (c.fact 30 rfl)
theorem Txt.g_MOST_PARCEL (T : Txt K mg) : ∃ t, mg "MOST_PARCEL" = some (.int 1000000000 t) := by
  obtain ⟨h, X, G, c, _⟩ := T.ex
  exact He.int_ok X G (c.fact 31 rfl)
theorem Txt.g_SINGLE_WORDS (T : Txt K mg) : mg "SINGLE_WORDS" = some (.ref (He.ga K "SINGLE_WORDS")) := by
  obtain ⟨h, X, G, c, _⟩ := T.ex
  exact He.glo_ok X G (c.fact 32 rfl)
theorem Txt.g_ACTIONS (T : Txt K mg) : mg "ACTIONS" = some (.ref (He.ga K "ACTIONS")) := by
  obtain ⟨h, X, G, c, _⟩ := T.ex
  exact He.glo_ok X G (c.fact 33 rfl)
theorem Txt.g_MOMENTS (T : Txt K mg) : mg "MOMENTS" = some (.ref (He.ga K "MOMENTS")) := by
  obtain ⟨h, X, G, c, _⟩ := T.ex
  exact He.glo_ok X G (c.fact 34 rfl)
theorem Txt.g_MOST_ACTIONS (T : Txt K mg) : ∃ t, mg "MOST_ACTIONS" = some (.int 6 t) := by
  obtain ⟨h, X, G, c, _⟩ := T.ex
  exact He.int_ok X G (c.fact 35 rfl)
theorem Txt.g_MOST_DAYS (T : Txt K mg) : ∃ t, mg "MOST_DAYS" = some (.int 30 t) := by
  obtain ⟨h, X, G, c, _⟩ := T.ex
  exact He.int_ok X G (c.fact 36 rfl)
theorem Txt.len (T : Txt K mg) : mg "len" = none := by
  obtain ⟨h, X, G, c, _⟩ := T.ex
  exact He.free_ok X G (c.fact 37 rfl)
theorem Txt.abs (T : Txt K mg) : mg "abs" = none := by
  obtain ⟨h, X, G, c, _⟩ := T.ex
  exact He.free_ok X G (c.fact 38 rfl)
theorem Txt.max (T : Txt K mg) : mg "max" = none := by
  obtain ⟨h, X, G, c, _⟩ := T.ex
  exact He.free_ok X G (c.fact 39 rfl)
theorem Txt.min (T : Txt K mg) : mg "min" = none := by
  obtain ⟨h, X, G, c, _⟩ := T.ex
  exact He.free_ok X G (c.fact 40 rfl)
theorem Txt.isinstance (T : Txt K mg) : mg "isinstance" = none := by
  obtain ⟨h, X, G, c, _⟩ := T.ex
  exact He.free_ok X G (c.fact 41 rfl)
theorem Txt.all (T : Txt K mg) : mg "all" = none := by
  obtain ⟨h, X, G, c, _⟩ := T.ex
  exact He.free_ok X G (c.fact 42 rfl)
theorem Txt.any (T : Txt K mg) : mg "any" = none := by
  obtain ⟨h, X, G, c, _⟩ := T.ex
  exact He.free_ok X G (c.fact 43 rfl)
theorem Txt.zip (T : Txt K mg) : mg "zip" = none := by
  obtain ⟨h, X, G, c, _⟩ := T.ex
  exact He.free_ok X G (c.fact 44 rfl)
theorem Txt.enumerate (T : Txt K mg) : mg "enumerate" = none := by
  obtain ⟨h, X, G, c, _⟩ := T.ex
  exact He.free_ok X G (c.fact 45 rfl)
theorem Txt.super (T : Txt K mg) : mg "super" = none := by
  obtain ⟨h, X, G, c, _⟩ := T.ex
  exact He.free_ok X G (c.fact 46 rfl)
theorem Txt.ValueError (T : Txt K mg) : mg "ValueError" = none := by
  obtain ⟨h, X, G, c, _⟩ := T.ex
  exact He.free_ok X G (c.fact 47 rfl)
theorem Txt.int (T : Txt K mg) : mg "int" = none := by
  obtain ⟨h, X, G, c, _⟩ := T.ex
  exact He.free_ok X G (c.fact 48 rfl)
theorem Txt.str (T : Txt K mg) : mg "str" = none := by
  obtain ⟨h, X, G, c, _⟩ := T.ex
  exact He.free_ok X G (c.fact 49 rfl)
theorem Txt.bool (T : Txt K mg) : mg "bool" = none := by
  obtain ⟨h, X, G, c, _⟩ := T.ex
  exact He.free_ok X G (c.fact 50 rfl)
theorem Txt.list (T : Txt K mg) : mg "list" = none := by
  obtain ⟨h, X, G, c, _⟩ := T.ex
  exact He.free_ok X G (c.fact 51 rfl)
theorem Txt.tuple (T : Txt K mg) : mg "tuple" = none := by
  obtain ⟨h, X, G, c, _⟩ := T.ex
  exact He.free_ok X G (c.fact 52 rfl)
theorem Txt.range (T : Txt K mg) : mg "range" = none := by
  obtain ⟨h, X, G, c, _⟩ := T.ex
  exact He.free_ok X G (c.fact 53 rfl)
theorem Txt.cl_Told (T : Txt K mg) : Cls K (He.ga K "Told") := by
  obtain ⟨h, X, G, c, _⟩ := T.ex
  exact He.cls_ok (c.fact 54 rfl)
theorem Txt.no_Told_letters (T : Txt K mg) : NoAttr K (He.ga K "Told") "letters" := by
  obtain ⟨h, X, G, c, _⟩ := T.ex
  exact He.noat_ok (c.fact 55 rfl)
theorem Txt.no_Told_opened (T : Txt K mg) : NoAttr K (He.ga K "Told") "opened" := by
  obtain ⟨h, X, G, c, _⟩ := T.ex
  exact He.noat_ok (c.fact 56 rfl)
theorem Txt.no_Told_got (T : Txt K mg) : NoAttr K (He.ga K "Told") "got" := by
  obtain ⟨h, X, G, c, _⟩ := T.ex
  exact He.noat_ok (c.fact 57 rfl)
theorem Txt.no_Told_lays (T : Txt K mg) : NoAttr K (He.ga K "Told") "lays" := by
  obtain ⟨h, X, G, c, _⟩ := T.ex
  exact He.noat_ok (c.fact 58 rfl)
theorem Txt.no_Told_wrongs (T : Txt K mg) : NoAttr K (He.ga K "Told") "wrongs" := by
  obtain ⟨h, X, G, c, _⟩ := T.ex
  exact He.noat_ok (c.fact 59 rfl)
theorem Txt.no_Told_moments (T : Txt K mg) : NoAttr K (He.ga K "Told") "moments" := by
  obtain ⟨h, X, G, c, _⟩ := T.ex
  exact He.noat_ok (c.fact 60 rfl)
theorem Txt.m_Told_report (T : Txt K mg) : Meth K (He.ga K "Told") "report" (He.ma K (He.ga K "Told") "report") := by
  obtain ⟨h, X, G, c, _⟩ := T.ex
  exact He.meth_ok (c.fact 61 rfl)
theorem Txt.mk_Told (T : Txt K mg) : Mk K (He.ga K "Told") (He.ma K (He.ga K "Told") "__init__") := by
  obtain ⟨h, X, G, c, _⟩ := T.ex
  exact He.mkr_ok (c.fact 62 rfl)
theorem Txt.cl_Box (T : Txt K mg) : Cls K (He.ga K "Box") := by
  obtain ⟨h, X, G, c, _⟩ := T.ex
  exact He.cls_ok (c.fact 63 rfl)
theorem Txt.no_Box_ajar (T : Txt K mg) : NoAttr K (He.ga K "Box") "ajar" := by
  obtain ⟨h, X, G, c, _⟩ := T.ex
  exact He.noat_ok (c.fact 64 rfl)
theorem Txt.no_Box_inside (T : Txt K mg) : NoAttr K (He.ga K "Box") "inside" := by
  obtain ⟨h, X, G, c, _⟩ := T.ex
  exact He.noat_ok (c.fact 65 rfl)
theorem Txt.no_Box_taken_for (T : Txt K mg) : NoAttr K (He.ga K "Box") "taken_for" := by
  obtain ⟨h, X, G, c, _⟩ := T.ex
  exact He.noat_ok (c.fact 66 rfl)
theorem Txt.no_Box_valid (T : Txt K mg) : NoAttr K (He.ga K "Box") "valid" := by
  obtain ⟨h, X, G, c, _⟩ := T.ex
  exact He.noat_ok (c.fact 67 rfl)
theorem Txt.no_Box_age (T : Txt K mg) : NoAttr K (He.ga K "Box") "age" := by
  obtain ⟨h, X, G, c, _⟩ := T.ex
  exact He.noat_ok (c.fact 68 rfl)
theorem Txt.no_Box_last (T : Txt K mg) : NoAttr K (He.ga K "Box") "last" := by
  obtain ⟨h, X, G, c, _⟩ := T.ex
  exact He.noat_ok (c.fact 69 rfl)
theorem Txt.no_Box_sent (T : Txt K mg) : NoAttr K (He.ga K "Box") "sent" := by
  obtain ⟨h, X, G, c, _⟩ := T.ex
  exact He.noat_ok (c.fact 70 rfl)
theorem Txt.no_Box_served (T : Txt K mg) : NoAttr K (He.ga K "Box") "served" := by
  obtain ⟨h, X, G, c, _⟩ := T.ex
  exact He.noat_ok (c.fact 71 rfl)
theorem Txt.m_Box_copied (T : Txt K mg) : Meth K (He.ga K "Box") "copied" (He.ma K (He.ga K "Box") "copied") := by
  obtain ⟨h, X, G, c, _⟩ := T.ex
  exact He.meth_ok (c.fact 72 rfl)
theorem Txt.m_Box_stands (T : Txt K mg) : Meth K (He.ga K "Box") "stands" (He.ma K (He.ga K "Box") "stands") := by
  obtain ⟨h, X, G, c, _⟩ := T.ex
  exact He.meth_ok (c.fact 73 rfl)
theorem Txt.m_Box_bring (T : Txt K mg) : Meth K (He.ga K "Box") "bring" (He.ma K (He.ga K "Box") "bring") := by
  obtain ⟨h, X, G, c, _⟩ := T.ex
  exact He.meth_ok (c.fact 74 rfl)
theorem Txt.m_Box_code (T : Txt K mg) : Meth K (He.ga K "Box") "code" (He.ma K (He.ga K "Box") "code") := by
  obtain ⟨h, X, G, c, _⟩ := T.ex
  exact He.meth_ok (c.fact 75 rfl)
theorem Txt.m_Box_pass_by (T : Txt K mg) : Meth K (He.ga K "Box") "pass_by" (He.ma K (He.ga K "Box") "pass_by") := by
  obtain ⟨h, X, G, c, _⟩ := T.ex
  exact He.meth_ok (c.fact 76 rfl)
theorem Txt.m_Box_day (T : Txt K mg) : Meth K (He.ga K "Box") "day" (He.ma K (He.ga K "Box") "day") := by
  obtain ⟨h, X, G, c, _⟩ := T.ex
  exact He.meth_ok (c.fact 77 rfl)
theorem Txt.m_Box_power (T : Txt K mg) : Meth K (He.ga K "Box") "power" (He.ma K (He.ga K "Box") "power") := by
  obtain ⟨h, X, G, c, _⟩ := T.ex
  exact He.meth_ok (c.fact 78 rfl)
theorem Txt.m_Box_let_take (T : Txt K mg) : Meth K (He.ga K "Box") "_let_take" (He.ma K (He.ga K "Box") "_let_take") := by
  obtain ⟨h, X, G, c, _⟩ := T.ex
  exact He.meth_ok (c.fact 79 rfl)
theorem Txt.m_Box_go_away (T : Txt K mg) : Meth K (He.ga K "Box") "_go_away" (He.ma K (He.ga K "Box") "_go_away") := by
  obtain ⟨h, X, G, c, _⟩ := T.ex
  exact He.meth_ok (c.fact 80 rfl)
theorem Txt.m_Box_carry_out (T : Txt K mg) : Meth K (He.ga K "Box") "_carry_out" (He.ma K (He.ga K "Box") "_carry_out") := by
  obtain ⟨h, X, G, c, _⟩ := T.ex
  exact He.meth_ok (c.fact 81 rfl)
theorem Txt.m_Box_act (T : Txt K mg) : Meth K (He.ga K "Box") "_act" (He.ma K (He.ga K "Box") "_act") := by
  obtain ⟨h, X, G, c, _⟩ := T.ex
  exact He.meth_ok (c.fact 82 rfl)
theorem Txt.m_Box_send_code (T : Txt K mg) : Meth K (He.ga K "Box") "_send_code" (He.ma K (He.ga K "Box") "_send_code") := by
  obtain ⟨h, X, G, c, _⟩ := T.ex
  exact He.meth_ok (c.fact 83 rfl)
theorem Txt.mk_Box (T : Txt K mg) : Mk K (He.ga K "Box") (He.ma K (He.ga K "Box") "__init__") := by
  obtain ⟨h, X, G, c, _⟩ := T.ex
  exact He.mkr_ok (c.fact 84 rfl)
theorem Txt.cl_Book (T : Txt K mg) : Cls K (He.ga K "Book") := by
  obtain ⟨h, X, G, c, _⟩ := T.ex
  exact He.cls_ok (c.fact 85 rfl)
theorem Txt.no_Book__days (T : Txt K mg) : NoAttr K (He.ga K "Book") "_days" := by
  obtain ⟨h, X, G, c, _⟩ := T.ex
  exact He.noat_ok (c.fact 86 rfl)
theorem Txt.no_Book__rules (T : Txt K mg) : NoAttr K (He.ga K "Book") "_rules" := by
  obtain ⟨h, X, G, c, _⟩ := T.ex
  exact He.noat_ok (c.fact 87 rfl)
theorem Txt.m_Book_eq (T : Txt K mg) : Meth K (He.ga K "Book") "__eq__" (He.ma K (He.ga K "Book") "__eq__") := by
  obtain ⟨h, X, G, c, _⟩ := T.ex
  exact He.meth_ok (c.fact 88 rfl)
theorem Txt.m_Book_days (T : Txt K mg) : Meth K (He.ga K "Book") "days" (He.ma K (He.ga K "Book") "days") := by
  obtain ⟨h, X, G, c, _⟩ := T.ex
  exact He.meth_ok (c.fact 89 rfl)
theorem Txt.m_Book_rule (T : Txt K mg) : Meth K (He.ga K "Book") "rule" (He.ma K (He.ga K "Book") "rule") := by
  obtain ⟨h, X, G, c, _⟩ := T.ex
  exact He.meth_ok (c.fact 90 rfl)
theorem Txt.m_Book_rules (T : Txt K mg) : Meth K (He.ga K "Book") "rules" (He.ma K (He.ga K "Book") "rules") := by
  obtain ⟨h, X, G, c, _⟩ := T.ex
  exact He.meth_ok (c.fact 91 rfl)
theorem Txt.m_Book_with_rule (T : Txt K mg) : Meth K (He.ga K "Book") "with_rule" (He.ma K (He.ga K "Book") "with_rule") := by
  obtain ⟨h, X, G, c, _⟩ := T.ex
  exact He.meth_ok (c.fact 92 rfl)
theorem Txt.m_Book_with_days (T : Txt K mg) : Meth K (He.ga K "Book") "with_days" (He.ma K (He.ga K "Book") "with_days") := by
  obtain ⟨h, X, G, c, _⟩ := T.ex
  exact He.meth_ok (c.fact 93 rfl)
theorem Txt.m_Book_taking (T : Txt K mg) : Meth K (He.ga K "Book") "taking" (He.ma K (He.ga K "Book") "taking") := by
  obtain ⟨h, X, G, c, _⟩ := T.ex
  exact He.meth_ok (c.fact 94 rfl)
theorem Txt.mk_Book (T : Txt K mg) : Mk K (He.ga K "Book") (He.ma K (He.ga K "Book") "__init__") := by
  obtain ⟨h, X, G, c, _⟩ := T.ex
  exact He.mkr_ok (c.fact 95 rfl)
theorem Txt.tup_SINGLE_WORDS (T : Txt K mg) : ∀ H, SqT K H (He.ga K "SINGLE_WORDS") [.str "pass", .str "day", .str "power"] := by
  obtain ⟨h, X, G, c, e⟩ := T.ex
  exact fun H => My.tupAt_ok (My.all_ix e 0 rfl) H
theorem Txt.ty_SINGLE_WORDS (T : Txt K mg) : ∀ H, tyV K "tuple" (.ref (He.ga K "SINGLE_WORDS")) H := by
  obtain ⟨h, X, G, c, e⟩ := T.ex
  exact fun H => My.tupAt_ty (My.all_ix e 0 rfl) H
theorem Txt.tup_ACTIONS (T : Txt K mg) : ∀ H, SqT K H (He.ga K "ACTIONS") [.str "free", .str "full", .str "off", .str "code", .str "void", .str "look", .str "lock"] := by
  obtain ⟨h, X, G, c, e⟩ := T.ex
  exact fun H => My.tupAt_ok (My.all_ix e 1 rfl) H
theorem Txt.ty_ACTIONS (T : Txt K mg) : ∀ H, tyV K "tuple" (.ref (He.ga K "ACTIONS")) H := by
  obtain ⟨h, X, G, c, e⟩ := T.ex
  exact fun H => My.tupAt_ty (My.all_ix e 1 rfl) H
theorem Txt.tup_MOMENTS (T : Txt K mg) : ∀ H, SqT K H (He.ga K "MOMENTS") [.str "given", .str "laid", .str "left", .str "opened", .str "taken", .str "gone", .str "late", .str "power"] := by
  obtain ⟨h, X, G, c, e⟩ := T.ex
  exact fun H => My.tupAt_ok (My.all_ix e 2 rfl) H
theorem Txt.ty_MOMENTS (T : Txt K mg) : ∀ H, tyV K "tuple" (.ref (He.ga K "MOMENTS")) H := by
  obtain ⟨h, X, G, c, e⟩ := T.ex
  exact fun H => My.tupAt_ty (My.all_ix e 2 rfl) H
theorem Txt.dfl_Book_init_0 (T : Txt K mg) : ∀ H, SqT K H (He.dflAt ("Book", some "__init__") 0 K) [] := by
  obtain ⟨h, X, G, c, e⟩ := T.ex
  exact fun H => My.tupAt_ok (My.all_ix e 3 rfl) H
theorem Txt.dfl_Book_init_1 (T : Txt K mg) : ∀ H, SqT K H (He.dflAt ("Book", some "__init__") 1 K) [] := by
  obtain ⟨h, X, G, c, e⟩ := T.ex
  exact fun H => My.tupAt_ok (My.all_ix e 4 rfl) H
theorem Txt.dfl_Book_init_2 (T : Txt K mg) : ∀ H, SqT K H (He.dflAt ("Book", some "__init__") 2 K) [] := by
  obtain ⟨h, X, G, c, e⟩ := T.ex
  exact fun H => My.tupAt_ok (My.all_ix e 5 rfl) H
theorem Txt.dfl_Book_init_3 (T : Txt K mg) : ∀ H, SqT K H (He.dflAt ("Book", some "__init__") 3 K) [] := by
  obtain ⟨h, X, G, c, e⟩ := T.ex
  exact fun H => My.tupAt_ok (My.all_ix e 6 rfl) H
theorem Txt.dfl_Book_init_4 (T : Txt K mg) : ∀ H, SqT K H (He.dflAt ("Book", some "__init__") 4 K) [] := by
  obtain ⟨h, X, G, c, e⟩ := T.ex
  exact fun H => My.tupAt_ok (My.all_ix e 7 rfl) H
theorem Txt.dfl_Book_init_5 (T : Txt K mg) : ∀ H, SqT K H (He.dflAt ("Book", some "__init__") 5 K) [] := by
  obtain ⟨h, X, G, c, e⟩ := T.ex
  exact fun H => My.tupAt_ok (My.all_ix e 8 rfl) H
theorem Txt.dfl_Book_init_6 (T : Txt K mg) : ∀ H, SqT K H (He.dflAt ("Book", some "__init__") 6 K) [] := by
  obtain ⟨h, X, G, c, e⟩ := T.ex
  exact fun H => My.tupAt_ok (My.all_ix e 9 rfl) H
theorem Txt.dfl_Book_init_7 (T : Txt K mg) : ∀ H, SqT K H (He.dflAt ("Book", some "__init__") 7 K) [] := by
  obtain ⟨h, X, G, c, e⟩ := T.ex
  exact fun H => My.tupAt_ok (My.all_ix e 10 rfl) H
theorem Txt.f_wall (T : Txt K mg) : ∃ fd, FunD K d_wall.name d_wall.qual d_wall.params d_wall.body d_wall.scope (d_wall.dvs K) (d_wall.kws K) (He.fAd K d_wall.at_) fd := by
  obtain ⟨h, X, G, c, e⟩ := T.ex
  exact c.def_ 0 rfl
theorem Txt.f_Told_init (T : Txt K mg) : ∃ fd, FunD K d_Told_init.name d_Told_init.qual d_Told_init.params d_Told_init.body d_Told_init.scope (d_Told_init.dvs K) (d_Told_init.kws K) (He.fAd K d_Told_init.at_) fd := by
  obtain ⟨h, X, G, c, e⟩ := T.ex
  exact c.def_ 1 rfl
theorem Txt.f_Told_report (T : Txt K mg) : ∃ fd, FunD K d_Told_report.name d_Told_report.qual d_Told_report.params d_Told_report.body d_Told_report.scope (d_Told_report.dvs K) (d_Told_report.kws K) (He.fAd K d_Told_report.at_) fd := by
  obtain ⟨h, X, G, c, e⟩ := T.ex
  exact c.def_ 2 rfl
theorem Txt.f_Box_init (T : Txt K mg) : ∃ fd, FunD K d_Box_init.name d_Box_init.qual d_Box_init.params d_Box_init.body d_Box_init.scope (d_Box_init.dvs K) (d_Box_init.kws K) (He.fAd K d_Box_init.at_) fd := by
  obtain ⟨h, X, G, c, e⟩ := T.ex
  exact c.def_ 3 rfl
theorem Txt.f_Box_copied (T : Txt K mg) : ∃ fd, FunD K d_Box_copied.name d_Box_copied.qual d_Box_copied.params d_Box_copied.body d_Box_copied.scope (d_Box_copied.dvs K) (d_Box_copied.kws K) (He.fAd K d_Box_copied.at_) fd := by
  obtain ⟨h, X, G, c, e⟩ := T.ex
  exact c.def_ 4 rfl
theorem Txt.f_Box_stands (T : Txt K mg) : ∃ fd, FunD K d_Box_stands.name d_Box_stands.qual d_Box_stands.params d_Box_stands.body d_Box_stands.scope (d_Box_stands.dvs K) (d_Box_stands.kws K) (He.fAd K d_Box_stands.at_) fd := by
  obtain ⟨h, X, G, c, e⟩ := T.ex
  exact c.def_ 5 rfl
theorem Txt.f_Box_bring (T : Txt K mg) : ∃ fd, FunD K d_Box_bring.name d_Box_bring.qual d_Box_bring.params d_Box_bring.body d_Box_bring.scope (d_Box_bring.dvs K) (d_Box_bring.kws K) (He.fAd K d_Box_bring.at_) fd := by
  obtain ⟨h, X, G, c, e⟩ := T.ex
  exact c.def_ 6 rfl
theorem Txt.f_Box_code (T : Txt K mg) : ∃ fd, FunD K d_Box_code.name d_Box_code.qual d_Box_code.params d_Box_code.body d_Box_code.scope (d_Box_code.dvs K) (d_Box_code.kws K) (He.fAd K d_Box_code.at_) fd := by
  obtain ⟨h, X, G, c, e⟩ := T.ex
  exact c.def_ 7 rfl
theorem Txt.f_Box_pass_by (T : Txt K mg) : ∃ fd, FunD K d_Box_pass_by.name d_Box_pass_by.qual d_Box_pass_by.params d_Box_pass_by.body d_Box_pass_by.scope (d_Box_pass_by.dvs K) (d_Box_pass_by.kws K) (He.fAd K d_Box_pass_by.at_) fd := by
  obtain ⟨h, X, G, c, e⟩ := T.ex
  exact c.def_ 8 rfl
theorem Txt.f_Box_day (T : Txt K mg) : ∃ fd, FunD K d_Box_day.name d_Box_day.qual d_Box_day.params d_Box_day.body d_Box_day.scope (d_Box_day.dvs K) (d_Box_day.kws K) (He.fAd K d_Box_day.at_) fd := by
  obtain ⟨h, X, G, c, e⟩ := T.ex
  exact c.def_ 9 rfl
theorem Txt.f_Box_power (T : Txt K mg) : ∃ fd, FunD K d_Box_power.name d_Box_power.qual d_Box_power.params d_Box_power.body d_Box_power.scope (d_Box_power.dvs K) (d_Box_power.kws K) (He.fAd K d_Box_power.at_) fd := by
  obtain ⟨h, X, G, c, e⟩ := T.ex
  exact c.def_ 10 rfl
theorem Txt.f_Box_let_take (T : Txt K mg) : ∃ fd, FunD K d_Box_let_take.name d_Box_let_take.qual d_Box_let_take.params d_Box_let_take.body d_Box_let_take.scope (d_Box_let_take.dvs K) (d_Box_let_take.kws K) (He.fAd K d_Box_let_take.at_) fd := by
  obtain ⟨h, X, G, c, e⟩ := T.ex
  exact c.def_ 11 rfl
theorem Txt.f_Box_go_away (T : Txt K mg) : ∃ fd, FunD K d_Box_go_away.name d_Box_go_away.qual d_Box_go_away.params d_Box_go_away.body d_Box_go_away.scope (d_Box_go_away.dvs K) (d_Box_go_away.kws K) (He.fAd K d_Box_go_away.at_) fd := by
  obtain ⟨h, X, G, c, e⟩ := T.ex
  exact c.def_ 12 rfl
theorem Txt.f_Box_carry_out (T : Txt K mg) : ∃ fd, FunD K d_Box_carry_out.name d_Box_carry_out.qual d_Box_carry_out.params d_Box_carry_out.body d_Box_carry_out.scope (d_Box_carry_out.dvs K) (d_Box_carry_out.kws K) (He.fAd K d_Box_carry_out.at_) fd := by
  obtain ⟨h, X, G, c, e⟩ := T.ex
  exact c.def_ 13 rfl
theorem Txt.f_Box_act (T : Txt K mg) : ∃ fd, FunD K d_Box_act.name d_Box_act.qual d_Box_act.params d_Box_act.body d_Box_act.scope (d_Box_act.dvs K) (d_Box_act.kws K) (He.fAd K d_Box_act.at_) fd := by
  obtain ⟨h, X, G, c, e⟩ := T.ex
  exact c.def_ 14 rfl
theorem Txt.f_Box_send_code (T : Txt K mg) : ∃ fd, FunD K d_Box_send_code.name d_Box_send_code.qual d_Box_send_code.params d_Box_send_code.body d_Box_send_code.scope (d_Box_send_code.dvs K) (d_Box_send_code.kws K) (He.fAd K d_Box_send_code.at_) fd := by
  obtain ⟨h, X, G, c, e⟩ := T.ex
  exact c.def_ 15 rfl
theorem Txt.f_do_deed (T : Txt K mg) : ∃ fd, FunD K d_do_deed.name d_do_deed.qual d_do_deed.params d_do_deed.body d_do_deed.scope (d_do_deed.dvs K) (d_do_deed.kws K) (He.fAd K d_do_deed.at_) fd := by
  obtain ⟨h, X, G, c, e⟩ := T.ex
  exact c.def_ 16 rfl
theorem Txt.f_is_integer_within (T : Txt K mg) : ∃ fd, FunD K d_is_integer_within.name d_is_integer_within.qual d_is_integer_within.params d_is_integer_within.body d_is_integer_within.scope (d_is_integer_within.dvs K) (d_is_integer_within.kws K) (He.fAd K d_is_integer_within.at_) fd := by
  obtain ⟨h, X, G, c, e⟩ := T.ex
  exact c.def_ 17 rfl
theorem Txt.f_is_truth (T : Txt K mg) : ∃ fd, FunD K d_is_truth.name d_is_truth.qual d_is_truth.params d_is_truth.body d_is_truth.scope (d_is_truth.dvs K) (d_is_truth.kws K) (He.fAd K d_is_truth.at_) fd := by
  obtain ⟨h, X, G, c, e⟩ := T.ex
  exact c.def_ 18 rfl
theorem Txt.f_is_word (T : Txt K mg) : ∃ fd, FunD K d_is_word.name d_is_word.qual d_is_word.params d_is_word.body d_is_word.scope (d_is_word.dvs K) (d_is_word.kws K) (He.fAd K d_is_word.at_) fd := by
  obtain ⟨h, X, G, c, e⟩ := T.ex
  exact c.def_ 19 rfl
theorem Txt.f_are_truths (T : Txt K mg) : ∃ fd, FunD K d_are_truths.name d_are_truths.qual d_are_truths.params d_are_truths.body d_are_truths.scope (d_are_truths.dvs K) (d_are_truths.kws K) (He.fAd K d_are_truths.at_) fd := by
  obtain ⟨h, X, G, c, e⟩ := T.ex
  exact c.def_ 20 rfl
theorem Txt.f_is_deed (T : Txt K mg) : ∃ fd, FunD K d_is_deed.name d_is_deed.qual d_is_deed.params d_is_deed.body d_is_deed.scope (d_is_deed.dvs K) (d_is_deed.kws K) (He.fAd K d_is_deed.at_) fd := by
  obtain ⟨h, X, G, c, e⟩ := T.ex
  exact c.def_ 21 rfl
theorem Txt.f_check_are_deeds (T : Txt K mg) : ∃ fd, FunD K d_check_are_deeds.name d_check_are_deeds.qual d_check_are_deeds.params d_check_are_deeds.body d_check_are_deeds.scope (d_check_are_deeds.dvs K) (d_check_are_deeds.kws K) (He.fAd K d_check_are_deeds.at_) fd := by
  obtain ⟨h, X, G, c, e⟩ := T.ex
  exact c.def_ 22 rfl
theorem Txt.f_check_playable (T : Txt K mg) : ∃ fd, FunD K d_check_playable.name d_check_playable.qual d_check_playable.params d_check_playable.body d_check_playable.scope (d_check_playable.dvs K) (d_check_playable.kws K) (He.fAd K d_check_playable.at_) fd := by
  obtain ⟨h, X, G, c, e⟩ := T.ex
  exact c.def_ 23 rfl
theorem Txt.f_played (T : Txt K mg) : ∃ fd, FunD K d_played.name d_played.qual d_played.params d_played.body d_played.scope (d_played.dvs K) (d_played.kws K) (He.fAd K d_played.at_) fd := by
  obtain ⟨h, X, G, c, e⟩ := T.ex
  exact c.def_ 24 rfl
theorem Txt.f_play (T : Txt K mg) : ∃ fd, FunD K d_play.name d_play.qual d_play.params d_play.body d_play.scope (d_play.dvs K) (d_play.kws K) (He.fAd K d_play.at_) fd := by
  obtain ⟨h, X, G, c, e⟩ := T.ex
  exact c.def_ 25 rfl
theorem Txt.f_faults (T : Txt K mg) : ∃ fd, FunD K d_faults.name d_faults.qual d_faults.params d_faults.body d_faults.scope (d_faults.dvs K) (d_faults.kws K) (He.fAd K d_faults.at_) fd := by
  obtain ⟨h, X, G, c, e⟩ := T.ex
  exact c.def_ 26 rfl
theorem Txt.f_is_rule (T : Txt K mg) : ∃ fd, FunD K d_is_rule.name d_is_rule.qual d_is_rule.params d_is_rule.body d_is_rule.scope (d_is_rule.dvs K) (d_is_rule.kws K) (He.fAd K d_is_rule.at_) fd := by
  obtain ⟨h, X, G, c, e⟩ := T.ex
  exact c.def_ 27 rfl
theorem Txt.f_Book_init (T : Txt K mg) : ∃ fd, FunD K d_Book_init.name d_Book_init.qual d_Book_init.params d_Book_init.body d_Book_init.scope (d_Book_init.dvs K) (d_Book_init.kws K) (He.fAd K d_Book_init.at_) fd := by
  obtain ⟨h, X, G, c, e⟩ := T.ex
  exact c.def_ 28 rfl
theorem Txt.f_Book_eq (T : Txt K mg) : ∃ fd, FunD K d_Book_eq.name d_Book_eq.qual d_Book_eq.params d_Book_eq.body d_Book_eq.scope (d_Book_eq.dvs K) (d_Book_eq.kws K) (He.fAd K d_Book_eq.at_) fd := by
  obtain ⟨h, X, G, c, e⟩ := T.ex
  exact c.def_ 29 rfl
theorem Txt.f_Book_days (T : Txt K mg) : ∃ fd, FunD K d_Book_days.name d_Book_days.qual d_Book_days.params d_Book_days.body d_Book_days.scope (d_Book_days.dvs K) (d_Book_days.kws K) (He.fAd K d_Book_days.at_) fd := by
  obtain ⟨h, X, G, c, e⟩ := T.ex
  exact c.def_ 30 rfl
theorem Txt.f_Book_rule (T : Txt K mg) : ∃ fd, FunD K d_Book_rule.name d_Book_rule.qual d_Book_rule.params d_Book_rule.body d_Book_rule.scope (d_Book_rule.dvs K) (d_Book_rule.kws K) (He.fAd K d_Book_rule.at_) fd := by
  obtain ⟨h, X, G, c, e⟩ := T.ex
  exact c.def_ 31 rfl
theorem Txt.f_Book_rules (T : Txt K mg) : ∃ fd, FunD K d_Book_rules.name d_Book_rules.qual d_Book_rules.params d_Book_rules.body d_Book_rules.scope (d_Book_rules.dvs K) (d_Book_rules.kws K) (He.fAd K d_Book_rules.at_) fd := by
  obtain ⟨h, X, G, c, e⟩ := T.ex
  exact c.def_ 32 rfl
theorem Txt.f_Book_with_rule (T : Txt K mg) : ∃ fd, FunD K d_Book_with_rule.name d_Book_with_rule.qual d_Book_with_rule.params d_Book_with_rule.body d_Book_with_rule.scope (d_Book_with_rule.dvs K) (d_Book_with_rule.kws K) (He.fAd K d_Book_with_rule.at_) fd := by
  obtain ⟨h, X, G, c, e⟩ := T.ex
  exact c.def_ 33 rfl
theorem Txt.f_Book_with_days (T : Txt K mg) : ∃ fd, FunD K d_Book_with_days.name d_Book_with_days.qual d_Book_with_days.params d_Book_with_days.body d_Book_with_days.scope (d_Book_with_days.dvs K) (d_Book_with_days.kws K) (He.fAd K d_Book_with_days.at_) fd := by
  obtain ⟨h, X, G, c, e⟩ := T.ex
  exact c.def_ 34 rfl
theorem Txt.f_Book_taking (T : Txt K mg) : ∃ fd, FunD K d_Book_taking.name d_Book_taking.qual d_Book_taking.params d_Book_taking.body d_Book_taking.scope (d_Book_taking.dvs K) (d_Book_taking.kws K) (He.fAd K d_Book_taking.at_) fd := by
  obtain ⟨h, X, G, c, e⟩ := T.ex
  exact c.def_ 35 rfl
theorem Txt.f_law_spring (T : Txt K mg) : ∃ fd, FunD K d_law_spring.name d_law_spring.qual d_law_spring.params d_law_spring.body d_law_spring.scope (d_law_spring.dvs K) (d_law_spring.kws K) (He.fAd K d_law_spring.at_) fd := by
  obtain ⟨h, X, G, c, e⟩ := T.ex
  exact c.def_ 36 rfl
theorem Txt.f_law_drop (T : Txt K mg) : ∃ fd, FunD K d_law_drop.name d_law_drop.qual d_law_drop.params d_law_drop.body d_law_drop.scope (d_law_drop.dvs K) (d_law_drop.kws K) (He.fAd K d_law_drop.at_) fd := by
  obtain ⟨h, X, G, c, e⟩ := T.ex
  exact c.def_ 37 rfl
theorem Txt.f_law_springs (T : Txt K mg) : ∃ fd, FunD K d_law_springs.name d_law_springs.qual d_law_springs.params d_law_springs.body d_law_springs.scope (d_law_springs.dvs K) (d_law_springs.kws K) (He.fAd K d_law_springs.at_) fd := by
  obtain ⟨h, X, G, c, e⟩ := T.ex
  exact c.def_ 38 rfl
theorem Txt.f_law_rule (T : Txt K mg) : ∃ fd, FunD K d_law_rule.name d_law_rule.qual d_law_rule.params d_law_rule.body d_law_rule.scope (d_law_rule.dvs K) (d_law_rule.kws K) (He.fAd K d_law_rule.at_) fd := by
  obtain ⟨h, X, G, c, e⟩ := T.ex
  exact c.def_ 39 rfl
theorem Txt.f_law_rules (T : Txt K mg) : ∃ fd, FunD K d_law_rules.name d_law_rules.qual d_law_rules.params d_law_rules.body d_law_rules.scope (d_law_rules.dvs K) (d_law_rules.kws K) (He.fAd K d_law_rules.at_) fd := by
  obtain ⟨h, X, G, c, e⟩ := T.ex
  exact c.def_ 40 rfl
theorem Txt.f_law_deed (T : Txt K mg) : ∃ fd, FunD K d_law_deed.name d_law_deed.qual d_law_deed.params d_law_deed.body d_law_deed.scope (d_law_deed.dvs K) (d_law_deed.kws K) (He.fAd K d_law_deed.at_) fd := by
  obtain ⟨h, X, G, c, e⟩ := T.ex
  exact c.def_ 41 rfl
theorem Txt.f_law_deeds (T : Txt K mg) : ∃ fd, FunD K d_law_deeds.name d_law_deeds.qual d_law_deeds.params d_law_deeds.body d_law_deeds.scope (d_law_deeds.dvs K) (d_law_deeds.kws K) (He.fAd K d_law_deeds.at_) fd := by
  obtain ⟨h, X, G, c, e⟩ := T.ex
  exact c.def_ 42 rfl
theorem Txt.f_law_made (T : Txt K mg) : ∃ fd, FunD K d_law_made.name d_law_made.qual d_law_made.params d_law_made.body d_law_made.scope (d_law_made.dvs K) (d_law_made.kws K) (He.fAd K d_law_made.at_) fd := by
  obtain ⟨h, X, G, c, e⟩ := T.ex
  exact c.def_ 43 rfl
theorem Txt.f_law (T : Txt K mg) : ∃ fd, FunD K d_law.name d_law.qual d_law.params d_law.body d_law.scope (d_law.dvs K) (d_law.kws K) (He.fAd K d_law.at_) fd := by
  obtain ⟨h, X, G, c, e⟩ := T.ex
  exact c.def_ 44 rfl
end
end K32


namespace K32
open PySem PySem.Spec PyProof.Rows L2
abbrev R : PySem.W.OpenRow := PySem.W.OpenLaw.row PySem.Challenge.rw_lockerwall_k32_whole_beginnings
abbrev hk : PySem.W.Hook := My.hookD2 5 fa fn ex
def ob (s : PySem.W.SharedT) : My.AlE := My.obsDG2 5 fa fn ex (HandSHeadRun.getT s)
theorem ob_eq (s : PySem.W.SharedT) : ob s = hk.obs s.abs := My.obsDG2_eq (HandSHeadRun.getT_eq s)
def loose : List PySem.Str := ((["_wall", "Told", "Box", "do_deed", "is_integer_within", "is_truth", "is_word", "WallError", "NoDays", "NoRule", "NoMoment", "NoDeed", "NoParcel", "are_truths", "is_deed", "check_are_deeds", "check_playable", "played", "play", "faults", "is_rule", "Book", "_law_spring", "_law_drop", "_law_springs", "_law_rule", "_law_rules", "_law_deed", "_law_deeds", "_law_made"] : List PySem.Str) ++ (["MOST_PARCEL", "SINGLE_WORDS", "ACTIONS", "MOMENTS", "MOST_ACTIONS", "MOST_DAYS"] : List PySem.Str))
theorem run (w : World) : HandSHeadRun.RunEq R (PySem.W.view R.prog [43]) hk ob 6000 loose w := by
  intro os
  kernel_rfl
end K32

set_option maxHeartbeats 200000
namespace K32
open PySem PySem.Spec PyProof.Rows L2
section
variable {P : Program} {w : World} {K : PySem.W.Frag} {mg : Str → Option Value} {base : Heap}
/-! ### checks -/
def sp_is_integer_within (K : PySem.W.Frag) : Sp := fun vs H Q _ => ∃ n lo hi : Int, vs = [.int n, .int lo, .int hi] ∧ Q (.bl (decide (lo ≤ n) && decide (n ≤ hi))) H
set_option maxHeartbeats 2000000 in
theorem ok_is_integer_within (T : Txt K mg) {fd : FuncData} (F : FunD K d_is_integer_within.name d_is_integer_within.qual d_is_integer_within.params d_is_integer_within.body d_is_integer_within.scope (d_is_integer_within.dvs K) (d_is_integer_within.kws K) (He.fAd K d_is_integer_within.at_) fd) : FnOk P w K mg base C8.CX0 1 (He.fAd K d_is_integer_within.at_) fd ["value", "low", "high"] (sp_is_integer_within K) := by
  refine F.ok sc_is_integer_within (fun vs H Q E h => ?_) (fun cdv A outer s H vs Q E hr h => ?_)
  · obtain ⟨n, lo, hi, rfl, _⟩ := h
    rfl
  · have hu := L2.hu_of hr
    obtain ⟨n, lo, hi, rfl, q⟩ := h
    refine ⟨_, (PSs.nox ((pss_one (ps_ret (pe_and (pe_callB (My.isiK (K := K) rfl) (by rfl) T.isinstance (by decide +kernel) (pa_cons (pv 0) (pa_cons (pe_bltn (v := .ty "int") (u := .type "int") rfl T.int (by decide +kernel) rfl) pa_nil))) (pe_and (pe_not (pe_callB (My.isiK (K := K) rfl) (by rfl) T.isinstance (by decide +kernel) (pa_cons (pv 0) (pa_cons (pe_bltn (v := .ty "bool") (u := .type "bool") rfl T.bool (by decide +kernel) rfl) pa_nil)))) (pe_one (pe_chain op_le op_le (pv 1) (pv 0) (pv 2))))))))), ?_⟩
    refine ⟨_, rfl, _, _, _, _, _, rfl, .ty "int", .base (.int n), L2.kit_ty (by decide +kernel), true, rfl, ?_⟩
    refine L2.iteT ?_
    refine ⟨_, rfl, _, _, _, _, _, rfl, .ty "bool", .base (.int n), L2.kit_ty (by decide +kernel), false, rfl, true, rfl, ?_⟩
    refine L2.iteT ?_
    refine ⟨_, rfl, _, rfl, _, _, rfl, rfl, _, rfl, ?_⟩
    refine L2.ite2 (fun c => ?_) (fun c => ?_)
    · refine ⟨_, rfl, _, _, rfl, rfl, ?_⟩
      rw [c] at q
      exact q
    · have e : decide (lo ≤ n) = false := by simpa using c
      rw [e] at q
      exact q
theorem c_is_integer_within (T : Txt K mg) : C8.Cal P w K mg base 1 "is_integer_within" (sp_is_integer_within K) [] := by
  obtain ⟨fd, F⟩ := T.f_is_integer_within
  exact ⟨_, fd, _, _, ok_is_integer_within T F, T.g_is_integer_within, F.kp, F.bindsN (fun _ _ _ _ _ _ us hl => match us, hl with | [_, _, _], _ => rfl), .nil⟩
def sp_is_truth (K : PySem.W.Frag) : Sp := fun vs H Q _ => ∃ b : Bool, vs = [.bl b] ∧ Q (.bl true) H
set_option maxHeartbeats 2000000 in
theorem ok_is_truth (T : Txt K mg) {fd : FuncData} (F : FunD K d_is_truth.name d_is_truth.qual d_is_truth.params d_is_truth.body d_is_truth.scope (d_is_truth.dvs K) (d_is_truth.kws K) (He.fAd K d_is_truth.at_) fd) : FnOk P w K mg base C8.CX0 1 (He.fAd K d_is_truth.at_) fd ["value"] (sp_is_truth K) := by
  refine F.ok sc_is_truth (fun vs H Q E h => ?_) (fun cdv A outer s H vs Q E hr h => ?_)
  · obtain ⟨b, rfl, _⟩ := h
    rfl
  · have hu := L2.hu_of hr
    obtain ⟨b, rfl, q⟩ := h
    refine ⟨_, (PSs.nox ((pss_one (ps_ret (pe_or (pe_cmpR op_isBl (pv 0) pe_bl (nomark _)) (pe_one (pe_cmpR op_isBl (pv 0) pe_bl (nomark _)))))))), ?_⟩
    refine ⟨_, rfl, _, _, rfl, rfl, _, rfl, ?_⟩
    cases b with
    | true => exact L2.iteT q
    | false => exact L2.iteF ⟨_, rfl, _, _, rfl, rfl, q⟩
theorem c_is_truth (T : Txt K mg) : C8.Cal P w K mg base 1 "is_truth" (sp_is_truth K) [] := by
  obtain ⟨fd, F⟩ := T.f_is_truth
  exact ⟨_, fd, _, _, ok_is_truth T F, T.g_is_truth, F.kp, F.bindsN (fun _ _ _ _ _ _ us hl => match us, hl with | [_], _ => rfl), .nil⟩
def sp_is_word (K : PySem.W.Frag) : Sp := fun vs H Q _ => ∃ (x : Str) (a : Addr) (ws : List Str), vs = [.str x, .ref a] ∧ SqT K H a (ws.map V.str) ∧ Q (.bl (decide (x ∈ ws))) H
set_option maxHeartbeats 2000000 in
theorem ok_is_word (T : Txt K mg) {fd : FuncData} (F : FunD K d_is_word.name d_is_word.qual d_is_word.params d_is_word.body d_is_word.scope (d_is_word.dvs K) (d_is_word.kws K) (He.fAd K d_is_word.at_) fd) : FnOk P w K mg base C8.CX0 1 (He.fAd K d_is_word.at_) fd ["value", "words"] (sp_is_word K) := by
  refine F.ok sc_is_word (fun vs H Q E h => ?_) (fun cdv A outer s H vs Q E hr h => ?_)
  · obtain ⟨x, a, ws, rfl, _⟩ := h
    rfl
  · have hu := L2.hu_of hr
    obtain ⟨x, a, ws, rfl, hS, q⟩ := h
    refine ⟨_, (PSs.nox ((pss_one (ps_ret (pe_and (pe_callB (My.isiK (K := K) rfl) (by rfl) T.isinstance (by decide +kernel) (pa_cons (pv 0) (pa_cons (pe_bltn (v := .ty "str") (u := .type "str") rfl T.str (by decide +kernel) rfl) pa_nil))) (pe_one (pe_cmpR (My.in_seqK (K := K) rfl) (pv 0) (pv 1) (by rfl)))))))), ?_⟩
    refine ⟨_, rfl, _, _, _, _, _, rfl, .ty "str", .base (.str x), L2.kit_ty (by decide +kernel), true, rfl, ?_⟩
    refine L2.iteT ?_
    refine ⟨_, rfl, _, rfl, a, _, rfl, .inr hS, rfl, My.all_flat_str ws, ?_⟩
    show Q (.bl (if false = true then _ else inV (.str x) (ws.map V.str))) H
    rw [if_neg Bool.false_ne_true, My.inV_str]
    exact q
theorem c_is_word (T : Txt K mg) : C8.Cal P w K mg base 1 "is_word" (sp_is_word K) [] := by
  obtain ⟨fd, F⟩ := T.f_is_word
  exact ⟨_, fd, _, _, ok_is_word T F, T.g_is_word, F.kp, F.bindsN (fun _ _ _ _ _ _ us hl => match us, hl with | [_, _], _ => rfl), .nil⟩
end
end K32

namespace K32
open PySem PySem.Spec PyProof.Rows L2 My
/-! ### books -/
abbrev acts : List Str := ["free", "full", "off", "code", "void", "look", "lock"]
abbrev moms : List Str := ["given", "laid", "left", "opened", "taken", "gone", "late", "power"]
abbrev RuleL := List Str
def GoodRule (r : RuleL) : Prop := r.length ≤ 6 ∧ ∀ x ∈ r, x ∈ acts
/-- a rule as it stands: a tuple of texts -/
def RuleAt (K : PySem.W.Frag) (H : Hp) (a : Addr) (r : RuleL) : Prop := SqT K H a (r.map V.str)
def bkf (d : Int) (t : Addr) : List (Str × V) := [("_days", V.int d), ("_rules", V.ref t)]
/-- a book of d days with these rules -/
def BookAt (K : PySem.W.Frag) (H : Hp) (b : Addr) (d : Int) (rs : List RuleL) : Prop := ∃ (dx t : Addr) (as : List Addr), H b = some (.ins (He.ga K "Book") dx (bkf d t)) ∧ SqT K H t (as.map V.ref) ∧ Paired (RuleAt K H) as rs ∧ rs.length = 8
theorem RuleAt.but {K : PySem.W.Frag} {xs : List Addr} {H H' : Hp} {a : Addr} {r : RuleL} (s : But xs H H') (n : a ∉ xs) (h : RuleAt K H a r) : RuleAt K H' a r := s.tup n h
theorem paired_map {α β : Type} {F G : α → β → Prop} : ∀ {l : List α} {m : List β}, (∀ a b, a ∈ l → F a b → G a b) → Paired F l m → Paired G l m
  | _, _, _, .nil => .nil
  | _, _, h, .cons r t => .cons (h _ _ (List.mem_cons_self ..) r) (paired_map (fun a b m => h a b (List.mem_cons_of_mem _ m)) t)
theorem paired_get {α β : Type} {F : α → β → Prop} : ∀ {l : List α} {m : List β} {i : Nat} {b : β}, Paired F l m → m[i]? = some b → ∃ a, l[i]? = some a ∧ F a b
  | _, _, _, _, .nil, e => by simp at e
  | _, _, 0, _, .cons r _, e => by simp at e; subst e; exact ⟨_, rfl, r⟩
  | _, _, i + 1, _, .cons _ t, e => by
    obtain ⟨a, h1, h2⟩ := paired_get t (by simpa using e)
    exact ⟨a, by simpa using h1, h2⟩
theorem BookAt.same {K : PySem.W.Frag} {H H' : Hp} {b : Addr} {d : Int} {rs : List RuleL} (s : Same H H') (h : BookAt K H b d rs) : BookAt K H' b d rs := by
  obtain ⟨dx, t, as, h1, h2, h3, h4⟩ := h
  exact ⟨dx, t, as, s _ _ h1, same_tup s h2, paired_map (fun a b _ r => same_tup s r) h3, h4⟩
section
variable {P : Program} {w : World} {K : PySem.W.Frag} {mg : Str → Option Value} {base : Heap}
def sp_is_rule (K : PySem.W.Frag) : Sp := fun vs H Q _ => ∃ (a : Addr) (r : RuleL), vs = [.ref a] ∧ RuleAt K H a r ∧ GoodRule r ∧ ∀ H', Same H H' → Q (.bl true) H'
set_option maxHeartbeats 2000000 in
theorem ok_is_rule (T : Txt K mg) {fd : FuncData} (F : FunD K d_is_rule.name d_is_rule.qual d_is_rule.params d_is_rule.body d_is_rule.scope (d_is_rule.dvs K) (d_is_rule.kws K) (He.fAd K d_is_rule.at_) fd) : FnOk P w K mg base C8.CX0 2 (He.fAd K d_is_rule.at_) fd ["value"] (sp_is_rule K) := by
  obtain ⟨t_MOST_ACTIONS, g_MOST_ACTIONS⟩ := T.g_MOST_ACTIONS
  have c_is_word := c_is_word (P := P) (w := w) (base := base) T
  refine F.ok sc_is_rule (fun vs H Q E h => ?_) (fun cdv A outer s H vs Q E hr h => ?_)
  · obtain ⟨a, r, rfl, _⟩ := h
    rfl
  · have hu := L2.hu_of hr
    obtain ⟨a, r, rfl, hS, hg, q⟩ := h
    refine ⟨_, (PSs.nox ((pss_cons (ps_if (PW.pt (pw_or (pt_not (pt_val (pe_callB (My.isiK (K := K) rfl) (by rfl) T.isinstance (by decide +kernel) (pa_cons (pv 0) (pa_cons (pe_bltn (v := .ty "tuple") (u := .type "tuple") rfl T.tuple (by decide +kernel) rfl) pa_nil))))) (pw_or1 (pt_cmpR op_gt (pe_callB (My.len_seqK (K := K) rfl) (by rfl) T.len (by decide +kernel) (pa_cons (pv 0) pa_nil)) (pe_glob (v := .int 6) rfl g_MOST_ACTIONS ⟨_, rfl⟩) (nomark _)))))
  (pss_one (ps_ret pe_bl))
  pss_nil)
  (pss_one (ps_ret (pe_callB (My.allK (K := K) rfl rfl) (by rfl) T.all (by decide +kernel) (pa_cons (pe_lc (own := [("action", 1)]) (g := (gName 1)) (tt := tYes) (by rfl) sc_is_rule.nd (My.pi_tupK (K := K) rfl (pv 0)) (blkOk_by (N := N_is_rule) (sc := defScope s_is_rule) (by decide +kernel)) (fun _ _ _ _ _ => (pg_name (i := 1) sc_is_rule.nd rfl (by first | exact Or.inl rfl | exact Or.inr rfl))) (fun _ _ _ _ _ => pts_nil) (fun _ _ _ _ _ => (C8.pe_c c_is_word hr (by decide) rfl (pa_cons (pv 1) (pa_cons (pe_glob (v := .ref (He.ga K "ACTIONS")) rfl T.g_ACTIONS rfl) pa_nil))))) pa_nil))))))), ?_⟩
    refine ⟨_, rfl, _, _, _, _, _, rfl, .ty "tuple", tyx_tup hS, L2.kit_ty (by decide +kernel), true, rfl, ?_⟩
    refine L2.iteF ?_
    refine ⟨_, rfl, a, _, rfl, .inr hS, _, _, rfl, rfl, _, rfl, ?_⟩
    have e : decide (((r.map V.str).length : Int) > 6) = false := decide_eq_false (by rw [List.length_map]; have := hg.1; omega)
    rw [e]
    refine L2.iteF ?_
    refine ⟨_, rfl, a, rfl, ⟨_, hS⟩, fun D hD => lc_tup (K := K) (a := a) (xs := r.map V.str) (fun i H' => Same H H' ∧ H' D = some (.lst ((List.replicate i true).map V.bl))) ⟨same_new hD, upd_same⟩ (fun i H' _ p => same_tup p.1 hS) ?_ ?_⟩
    · rintro i y H2 hi ⟨s2, hD2⟩
      obtain ⟨z, hz, rfl⟩ := map_get hi
      have hlt : i < r.length := (List.getElem?_eq_some_iff.mp hz).1
      have hm : z ∈ acts := hg.2 z (List.mem_of_getElem? hz)
      refine ⟨rfl, ?_⟩
      refine ⟨_, rfl, z, _, acts, rfl, T.tup_ACTIONS _, ?_⟩
      rw [decide_eq_true hm]
      refine ⟨_, hD2, ?_, same_upd s2 hD, ?_⟩
      · rw [List.length_map, List.length_replicate]
        have := hg.1
        exact Nat.lt_of_lt_of_le hlt (Nat.le_trans this (by decide))
      · rw [upd_same, List.replicate_succ', List.map_append]
        rfl
    · rintro H2 ⟨s2, hD2⟩
      refine ⟨D, _, rfl, SqL.of hD2, ?_⟩
      have e2 : (List.replicate (r.map V.str).length true).all id = true := List.all_eq_true.mpr fun x hx => (List.mem_replicate.mp hx).2
      rw [e2]
      exact q _ s2
theorem c_is_rule (T : Txt K mg) : C8.Cal P w K mg base 2 "is_rule" (sp_is_rule K) [] := by
  obtain ⟨fd, F⟩ := T.f_is_rule
  exact ⟨_, fd, _, _, ok_is_rule T F, T.g_is_rule, F.kp, F.bindsN (fun _ _ _ _ _ _ us hl => match us, hl with | [_], _ => rfl), .nil⟩
def sp_Book_init (K : PySem.W.Frag) : Sp := fun vs H Q _ => ∃ (p dx : Addr) (d : Int) (as : List Addr) (rs : List RuleL), vs = .ref p :: .int d :: as.map V.ref ∧ H p = some (.ins (He.ga K "Book") dx []) ∧ 1 ≤ d ∧ d ≤ 30 ∧
  Paired (RuleAt K H) as rs ∧ rs.length = 8 ∧ (∀ r ∈ rs, GoodRule r) ∧ ∀ H' t, But [p] H H' → H' p = some (.ins (He.ga K "Book") dx (bkf d t)) → H' t = some (.tup (as.map V.ref)) → Q .non H'
theorem len8 {α β : Type} {F : α → β → Prop} {as : List α} {rs : List β} (h : Paired F as rs) (e : rs.length = 8) : ∃ a0 a1 a2 a3 a4 a5 a6 a7, as = [a0, a1, a2, a3, a4, a5, a6, a7] := by
  have l : as.length = 8 := h.length.trans e
  match as, l with
  | [a0, a1, a2, a3, a4, a5, a6, a7], _ => exact ⟨a0, a1, a2, a3, a4, a5, a6, a7, rfl⟩
set_option maxHeartbeats 2000000 in
theorem ok_Book_init (T : Txt K mg) {fd : FuncData} (F : FunD K d_Book_init.name d_Book_init.qual d_Book_init.params d_Book_init.body d_Book_init.scope (d_Book_init.dvs K) (d_Book_init.kws K) (He.fAd K d_Book_init.at_) fd) : FnOk P w K mg base C8.CX0 3 (He.fAd K d_Book_init.at_) fd ["self", "days", "given", "laid", "left", "opened", "taken", "gone", "late", "power"] (sp_Book_init K) := by
  obtain ⟨t_MOST_DAYS, g_MOST_DAYS⟩ := T.g_MOST_DAYS
  have c_is_rule := c_is_rule (P := P) (w := w) (base := base) T
  have c_is_integer_within := c_is_integer_within (P := P) (w := w) (base := base) T
  refine F.ok sc_Book_init (fun vs H Q E h => ?_) (fun cdv A outer s H vs Q E hr h => ?_)
  · obtain ⟨p, dx, d, as, rs, rfl, _, _, _, h3, h4, _⟩ := h
    obtain ⟨a0, a1, a2, a3, a4, a5, a6, a7, rfl⟩ := len8 h3 h4
    rfl
  · have hu := L2.hu_of hr
    obtain ⟨p, dx, d, as, rs, rfl, hp, h1, h2, h3, h4, h5, q⟩ := h
    obtain ⟨a0, a1, a2, a3, a4, a5, a6, a7, rfl⟩ := len8 h3 h4
    refine ⟨_, (PSs.nox ((pss_cons (ps_if (pt_not (pt_val (C8.pe_c c_is_integer_within hr (by decide) rfl (pa_cons (pv 1) (pa_cons pe_int (pa_cons (pe_glob (v := .int 30) rfl g_MOST_DAYS ⟨_, rfl⟩) pa_nil))))))
  (pss_one ps_never)
  pss_nil)
  (pss_cons (ps_set (i := 10) sc_Book_init.nd rfl (by first | exact Or.inl rfl | exact Or.inr rfl) (pe_tup (pa_cons (pv 2) (pa_cons (pv 3) (pa_cons (pv 4) (pa_cons (pv 5) (pa_cons (pv 6) (pa_cons (pv 7) (pa_cons (pv 8) (pa_cons (pv 9) pa_nil))))))))))
  (pss_cons (ps_for PassesOwn.never rfl (RZ.pi_zipA (by rfl) T.zip (pa_cons (pe_glob (v := .ref (He.ga K "MOMENTS")) rfl T.g_MOMENTS rfl) (pa_cons (pv 10) pa_nil))) (My.pg_tupK (K := K) (n := 2) rfl rfl (pgs_cons (pg_name (i := 11) sc_Book_init.nd rfl (by first | exact Or.inl rfl | exact Or.inr rfl)) (pgs_cons (pg_name (i := 12) sc_Book_init.nd rfl (by first | exact Or.inl rfl | exact Or.inr rfl)) pgs_nil)))
  (pss_one (ps_if (pt_not (pt_val (C8.pe_c c_is_rule hr (by decide) rfl (pa_cons (pv 12) pa_nil))))
  (pss_one ps_never)
  pss_nil)))
  (pss_cons (ps_fld (pv 0) (pv 1) rfl)
  (pss_one (ps_fld (pv 0) (pv 10) rfl)))))))), ?_⟩
    refine ⟨_, rfl, d, 1, 30, rfl, true, by rw [decide_eq_true h1, decide_eq_true h2] <;> rfl, ?_⟩
    refine L2.iteF ?_
    refine ⟨_, rfl, _, rfl, _, rfl, _, rfl, _, rfl, _, rfl, _, rfl, _, rfl, by show 8 ≤ sizeLine; decide, fun t ht => ?_⟩
    have npt : p ≠ t := ne_of_none hp ht
    refine ⟨_, rfl, _, _, moms.map V.str, [V.ref a0, V.ref a1, V.ref a2, V.ref a3, V.ref a4, V.ref a5, V.ref a6, V.ref a7], rfl, .inr ⟨T.tup_MOMENTS _, SqT.of upd_same, ?_⟩⟩
    refine RZ.for_zipT (K := K) (xs := moms.map V.str) (ys := [V.ref a0, V.ref a1, V.ref a2, V.ref a3, V.ref a4, V.ref a5, V.ref a6, V.ref a7]) rfl (fun i σ H' => ∃ u v, σ = [some (.ref p), some (.int d), some (.ref a0), some (.ref a1), some (.ref a2), some (.ref a3), some (.ref a4), some (.ref a5), some (.ref a6), some (.ref a7), some (.ref t), u, v] ∧ Same (upd H t (.tup [V.ref a0, V.ref a1, V.ref a2, V.ref a3, V.ref a4, V.ref a5, V.ref a6, V.ref a7])) H')
      ⟨_, _, rfl, Same.refl _⟩ (fun i σ H' ⟨_, _, _, s⟩ => ⟨T.tup_MOMENTS _, same_tup s (SqT.of upd_same)⟩) ?_ ?_
    · rintro i x y T2 σ H2 hx hy ⟨u, v, rfl, s2⟩ hT2
      refine ⟨_, _, rfl, SqT.of upd_same, rfl, _, _, rfl, _, _, rfl, rfl, ?_⟩
      have hy' : ([a0, a1, a2, a3, a4, a5, a6, a7].map V.ref)[i]? = some y := hy
      obtain ⟨a, ha, rfl⟩ := map_get hy'
      obtain ⟨r, hr1, hr2⟩ : ∃ r, rs[i]? = some r ∧ RuleAt K H a r := by
        have hlt : i < rs.length := by rw [h4]; exact (List.getElem?_eq_some_iff.mp ha).1
        obtain ⟨b, hb, hR⟩ := paired_get h3 (List.getElem?_eq_getElem hlt)
        rw [ha] at hb
        cases hb
        exact ⟨_, List.getElem?_eq_getElem hlt, hR⟩
      have s3 : Same H (upd H2 T2 (.tup [x, .ref a])) := (same_new ht).trans (s2.trans (same_new hT2))
      refine ⟨_, rfl, a, r, rfl, same_tup s3 hr2, h5 r (List.mem_of_getElem? hr1), fun H3 s4 => ?_⟩
      refine ⟨true, rfl, L2.iteF ⟨_, _, rfl, s2.trans ((same_new hT2).trans s4)⟩⟩
    · rintro σ H2 ⟨u, v, rfl, s2⟩
      have hp2 : H2 p = some (.ins (He.ga K "Book") dx []) := s2 _ _ (by rw [upd_ne npt]; exact hp)
      have ht2 : H2 t = some (.tup [V.ref a0, V.ref a1, V.ref a2, V.ref a3, V.ref a4, V.ref a5, V.ref a6, V.ref a7]) := s2 _ _ upd_same
      refine ⟨_, rfl, _, rfl, p, _, dx, _, rfl, hp2, T.cl_Book, T.no_Book__days, (by show 0 < 1000; decide), ?_⟩
      refine ⟨_, rfl, _, rfl, p, _, dx, _, rfl, upd_same, T.cl_Book, T.no_Book__rules, (by show 1 < 1000; decide), ?_⟩
      refine q _ t ?_ upd_same ?_
      · exact (((But.of ((same_new ht).trans s2)).put (.inr (by simp))).put (.inr (by simp)))
      · rw [upd_ne npt.symm, upd_ne npt.symm]
        exact ht2
theorem c_Book_init (T : Txt K mg) : C8.Mak P w K mg base 3 "Book" (He.ga K "Book") (sp_Book_init K) [] := by
  obtain ⟨fd, F⟩ := T.f_Book_init
  obtain ⟨ds, rd, bd⟩ := F.binds1 (ps := ["self", "days", "given", "laid", "left", "opened", "taken", "gone", "late", "power"]) 10 8 (by intro z; cases z) rfl (fun T kV doc pm an cdv ct us its hl hi => match us, its, hl, hi with | [_, _, _, _, _, _, _, _, _, _], [_, _, _, _, _, _, _, _], _, _ => ⟨_, rfl, rfl⟩)
  exact ⟨_, fd, _, _, T.mk_Book, ok_Book_init T F, T.g_Book, bd, rd⟩
def sp_Book_days (K : PySem.W.Frag) : Sp := fun vs H Q _ => ∃ (b : Addr) (d : Int) (rs : List RuleL), vs = [.ref b] ∧ BookAt K H b d rs ∧ Q (.int d) H
set_option maxHeartbeats 2000000 in
theorem ok_Book_days (T : Txt K mg) {fd : FuncData} (F : FunD K d_Book_days.name d_Book_days.qual d_Book_days.params d_Book_days.body d_Book_days.scope (d_Book_days.dvs K) (d_Book_days.kws K) (He.fAd K d_Book_days.at_) fd) : FnOk P w K mg base C8.CX0 1 (He.fAd K d_Book_days.at_) fd ["self"] (sp_Book_days K) := by
  refine F.ok sc_Book_days (fun vs H Q E h => ?_) (fun cdv A outer s H vs Q E hr h => ?_)
  · obtain ⟨b, d, rs, rfl, _⟩ := h
    rfl
  · have hu := L2.hu_of hr
    obtain ⟨b, d, rs, rfl, ⟨dx, t, as, hb, _⟩, q⟩ := h
    refine ⟨_, (PSs.nox ((pss_one (ps_ret (My.pe_fldK (K := K) rfl (pv 0) rfl))))), ?_⟩
    exact ⟨_, rfl, b, _, dx, _, _, rfl, hb, T.cl_Book, T.no_Book__days, rfl, q⟩
theorem c_Book_days (T : Txt K mg) : C8.Met P w K mg base 1 (He.ga K "Book") "days" (sp_Book_days K) [] := by
  obtain ⟨fd, F⟩ := T.f_Book_days
  exact ⟨_, fd, _, _, T.cl_Book, T.m_Book_days, ok_Book_days T F, F.bindsN (fun _ _ _ _ _ _ us hl => match us, hl with | [_], _ => rfl), .nil⟩
/-- the rule of the i-th moment -/
def sp_Book_rule (K : PySem.W.Frag) : Sp := fun vs H Q _ => ∃ (H0 : Hp) (b : Addr) (d : Int) (rs : List RuleL) (m : Str) (i : Nat) (r : RuleL), vs = [.ref b, .str m] ∧ Same H0 H ∧ BookAt K H0 b d rs ∧ moms[i]? = some m ∧ rs[i]? = some r ∧ ∀ a, RuleAt K H0 a r → Q (.ref a) H
set_option maxHeartbeats 2000000 in
theorem ok_Book_rule (T : Txt K mg) {fd : FuncData} (F : FunD K d_Book_rule.name d_Book_rule.qual d_Book_rule.params d_Book_rule.body d_Book_rule.scope (d_Book_rule.dvs K) (d_Book_rule.kws K) (He.fAd K d_Book_rule.at_) fd) : FnOk P w K mg base C8.CX0 2 (He.fAd K d_Book_rule.at_) fd ["self", "moment"] (sp_Book_rule K) := by
  have c_is_word := c_is_word (P := P) (w := w) (base := base) T
  refine F.ok sc_Book_rule (fun vs H Q E h => ?_) (fun cdv A outer s H vs Q E hr h => ?_)
  · obtain ⟨H0, b, d, rs, m, i, r, rfl, _⟩ := h
    rfl
  · have hu := L2.hu_of hr
    obtain ⟨H0, b, d, rs, m, i, r, rfl, s0, ⟨dx, t, as, hb0, ht0, hrs, hl⟩, hm, hr1, q⟩ := h
    have hb := s0 _ _ hb0
    have ht := same_tup s0 ht0
    refine ⟨_, (PSs.nox ((pss_cons (ps_if (pt_not (pt_val (C8.pe_c c_is_word hr (by decide) rfl (pa_cons (pv 1) (pa_cons (pe_glob (v := .ref (He.ga K "MOMENTS")) rfl T.g_MOMENTS rfl) pa_nil)))))
  (pss_one ps_never)
  pss_nil)
  (pss_one (ps_ret (pe_ix (My.ix_tupK (K := K) rfl) (My.pe_fldK (K := K) rfl (pv 0) rfl) (My.pe_bmK (K := K) rfl PySem.F.plainAttrs_tuple PySem.F.slot_tuple_index PySem.F.type_tuple_index (My.tup_indexK (K := K) rfl) (pe_glob (v := .ref (He.ga K "MOMENTS")) rfl T.g_MOMENTS rfl) (pa_cons (pv 1) pa_nil)) (fun _ _ => rfl))))))), ?_⟩
    have hmem : m ∈ moms := List.mem_of_getElem? hm
    refine ⟨_, rfl, m, _, moms, rfl, T.tup_MOMENTS _, true, by rw [decide_eq_true hmem], ?_⟩
    refine L2.iteF ?_
    obtain ⟨a, ha, hR⟩ := paired_get hrs hr1
    have first : ∀ j, j < i → moms[j]? ≠ some m := by
      intro j hj e
      have hn : moms.Nodup := by decide +kernel
      exact absurd (L2.nd_ix hn e hm) (by omega)
    refine ⟨_, rfl, b, _, dx, _, _, rfl, hb, T.cl_Book, T.no_Book__rules, rfl, T.ty_MOMENTS _, _, rfl, _, moms, m, i, rfl, rfl, T.tup_MOMENTS _, hm, first, ?_⟩
    refine ⟨t, _, _, _, rfl, rfl, ht, atI_nat (by rw [List.getElem?_map, ha]; rfl), q a hR⟩
theorem c_Book_rule (T : Txt K mg) : C8.Met P w K mg base 2 (He.ga K "Book") "rule" (sp_Book_rule K) [] := by
  obtain ⟨fd, F⟩ := T.f_Book_rule
  exact ⟨_, fd, _, _, T.cl_Book, T.m_Book_rule, ok_Book_rule T F, F.bindsN (fun _ _ _ _ _ _ us hl => match us, hl with | [_, _], _ => rfl), .nil⟩
end
end K32

namespace K32
open PySem PySem.Spec PyProof.Rows L2 My StX
/-! ### books by another rule, books by name -/
section
variable {P : Program} {w : World} {K : PySem.W.Frag} {mg : Str → Option Value} {base : Heap}
theorem paired_set {α β : Type} {F : α → β → Prop} : ∀ {l : List α} {m : List β} {a : α} {b : β} (i : Nat), Paired F l m → F a b → Paired F (l.set i a) (m.set i b)
  | _, _, _, _, _, .nil, _ => .nil
  | _, _, _, _, 0, .cons _ t, h => .cons h t
  | _, _, _, _, i + 1, .cons r t, h => .cons r (paired_set i t h)
theorem ixN_nat {n i : Nat} (h : i < n) : ixN n (i : Int) = some i := by
  unfold ixN
  rw [if_pos (by omega), if_pos (by omega), Int.toNat_natCast]
def sp_Book_with_rule (K : PySem.W.Frag) : Sp := fun vs H Q _ => ∃ (b a : Addr) (d : Int) (rs : List RuleL) (m : Str) (i : Nat) (r : RuleL), vs = [.ref b, .str m, .ref a] ∧ BookAt K H b d rs ∧ moms[i]? = some m ∧ RuleAt K H a r ∧ GoodRule r ∧ (∀ r ∈ rs, GoodRule r) ∧ 1 ≤ d ∧ d ≤ 30 ∧
  ∀ H' p, H p = none → Same H H' → BookAt K H' p d (rs.set i r) → Q (.ref p) H'
set_option maxHeartbeats 2000000 in
theorem ok_Book_with_rule (T : Txt K mg) {fd : FuncData} (F : FunD K d_Book_with_rule.name d_Book_with_rule.qual d_Book_with_rule.params d_Book_with_rule.body d_Book_with_rule.scope (d_Book_with_rule.dvs K) (d_Book_with_rule.kws K) (He.fAd K d_Book_with_rule.at_) fd) : FnOk P w K mg base C8.CX0 5 (He.fAd K d_Book_with_rule.at_) fd ["self", "moment", "rule"] (sp_Book_with_rule K) := by
  have c_Book_init := c_Book_init (P := P) (w := w) (base := base) T
  have c_is_word := c_is_word (P := P) (w := w) (base := base) T
  refine F.ok sc_Book_with_rule (fun vs H Q E h => ?_) (fun cdv A outer s H vs Q E hr h => ?_)
  · obtain ⟨b, a, d, rs, m, i, r, rfl, _⟩ := h
    rfl
  · have hu := L2.hu_of hr
    obtain ⟨b, a, d, rs, m, i, r, rfl, ⟨dxb, t, as, hb, ht, hrs, hl⟩, hm, hR, hg, hgs, h1, h2, q⟩ := h
    refine ⟨_, (PSs.nox ((pss_cons (ps_if (pt_not (pt_val (C8.pe_c c_is_word hr (by decide) rfl (pa_cons (pv 1) (pa_cons (pe_glob (v := .ref (He.ga K "MOMENTS")) rfl T.g_MOMENTS rfl) pa_nil)))))
  (pss_one ps_never)
  pss_nil)
  (pss_cons (ps_set (i := 3) sc_Book_with_rule.nd rfl (by first | exact Or.inl rfl | exact Or.inr rfl) (pe_callTy (My.list_ofK (K := K) rfl) (by rfl) T.list (by decide +kernel) (pa_cons (My.pe_fldK (K := K) rfl (pv 0) rfl) pa_nil)))
  (pss_cons (ps_asg (pv 2) (pg_sub (pv 3) (My.pe_bmK (K := K) rfl PySem.F.plainAttrs_tuple PySem.F.slot_tuple_index PySem.F.type_tuple_index (My.tup_indexK (K := K) rfl) (pe_glob (v := .ref (He.ga K "MOMENTS")) rfl T.g_MOMENTS rfl) (pa_cons (pv 1) pa_nil)) set_list))
  (pss_one (ps_ret (My.pe_mkS2 c_Book_init hr (by decide) rfl (pa_cons (My.pe_fldK (K := K) rfl (pv 0) rfl) (My.pa_starK (K := K) rfl (pv 3) pa_nil)))))))))), ?_⟩
    have hmem : m ∈ moms := List.mem_of_getElem? hm
    have hi8 : i < 8 := (List.getElem?_eq_some_iff.mp hm).1
    refine ⟨_, rfl, m, _, moms, rfl, T.tup_MOMENTS _, true, by rw [decide_eq_true hmem], ?_⟩
    refine L2.iteF ?_
    have first : ∀ j, j < i → moms[j]? ≠ some m := by
      intro j hj e
      have hn : moms.Nodup := by decide +kernel
      exact absurd (L2.nd_ix hn e hm) (by omega)
    refine ⟨_, rfl, b, _, dxb, _, _, rfl, hb, T.cl_Book, T.no_Book__rules, rfl, t, _, rfl, .inr ht, fun l hl0 => ?_⟩
    have hal : as.length = 8 := hrs.length.trans hl
    have es : (as.map V.ref).set i (.ref a) = (as.set i a).map V.ref := by rw [List.map_set]
    refine ⟨_, rfl, _, rfl, T.ty_MOMENTS _, _, rfl, _, moms, m, i, rfl, rfl, T.tup_MOMENTS _, hm, first, l, _, _, i, rfl, rfl, upd_same, ixN_nat (by rw [List.length_map, hal]; exact hi8), ?_⟩
    rw [es]
    have s0 : Same H (upd (upd H l (.lst (as.map V.ref))) l (.lst ((as.set i a).map V.ref))) := same_upd (same_new hl0) hl0
    have hl3 : upd (upd H l (.lst (as.map V.ref))) l (.lst ((as.set i a).map V.ref)) l = some (.lst ((as.set i a).map V.ref)) := upd_same
    generalize upd (upd H l (.lst (as.map V.ref))) l (.lst ((as.set i a).map V.ref)) = H1 at s0 hl3
    refine ⟨_, rfl, b, _, dxb, _, _, rfl, s0 _ _ hb, T.cl_Book, T.no_Book__days, rfl, _, rfl, l, _, rfl, .inr (SqL.of hl3), ?_⟩
    intro x dx nx ndx nex
    have s1 : Same H1 (upd (upd H1 dx (.own x)) x (.ins (He.ga K "Book") dx [])) := (same_new ndx).trans (same_upd (Same.refl _) (by rw [upd_ne nex.symm]; exact nx))
    have s2 := s0.trans s1
    refine ⟨x, dx, d, as.set i a, rs.set i r, by rw [List.append_nil, List.append_nil], upd_same, h1, h2, paired_set i (paired_map (fun a r _ hr => same_tup s2 hr) hrs) (same_tup s2 hR), by rw [List.length_set]; exact hl, fun y hy => ?_, fun H' t2 bt hx ht2 => ⟨rfl, ?_⟩⟩
    · rcases List.mem_or_eq_of_mem_set hy with hy | hy
      · exact hgs y hy
      · rw [hy]; exact hg
    have s3 : Same H1 H' := fun c o e => bt c o (by simpa using ne_of_none e nx) (s1 _ _ e)
    have s4 := s0.trans s3
    exact q _ x (s0.free nx) s4 ⟨dx, t2, _, hx, SqT.of ht2, paired_set i (paired_map (fun a r _ hr => same_tup s4 hr) hrs) (same_tup s4 hR), by rw [List.length_set]; exact hl⟩
theorem c_Book_with_rule (T : Txt K mg) : C8.Met P w K mg base 5 (He.ga K "Book") "with_rule" (sp_Book_with_rule K) [] := by
  obtain ⟨fd, F⟩ := T.f_Book_with_rule
  exact ⟨_, fd, _, _, T.cl_Book, T.m_Book_with_rule, ok_Book_with_rule T F, F.bindsN (fun _ _ _ _ _ _ us hl => match us, hl with | [_, _, _], _ => rfl), .nil⟩
def gB {α : Type} (us its ws : List α) : List α := us ++ ws ++ its.drop 6
theorem kn_Book_init (T : Txt K mg) : My.MakN P w K mg base 3 "Book" (He.ga K "Book") (sp_Book_init K) 4 ["opened", "taken", "gone"] (fun vs zs => gB vs (d_Book_init.dvs K) zs) := by
  obtain ⟨fd, F⟩ := T.f_Book_init
  obtain ⟨its, hb⟩ := F.kbindsD (ps := ["self", "days", "given", "laid", "left", "opened", "taken", "gone", "late", "power"]) 5 ["opened", "taken", "gone"] (fun us its ws => gB us its ws) (by intro z; cases z)
    (fun r1 r2 r3 => (r1.append r3).append (My.vals_drop 6 r2))
    (fun T kV doc pm an cdv ct us its ws h1 h2 h3 => match us, its, ws, h1, h2, h3 with | [_, _, _, _, _], [_, _, _, _, _, _, _, _], [_, _, _], _, _, _ => ⟨_, rfl, rfl⟩)
  exact ⟨_, fd, _, _, T.mk_Book, ok_Book_init T F, T.g_Book, hb⟩
end
end K32

namespace K32
open PySem PySem.Spec PyProof.Rows L2 My
/-! ### springs: where a law's draws come from -/
/-- at a: a spring that was drawn from at most n times -/
def SpringAt (H : Hp) (a : Addr) (n : Nat) : Prop := ∃ w0 w1 w2 : Int, H a = some (.lst [.int w0, .int w1, .int w2]) ∧ w1.natAbs < 2 ^ 200 ∧ 0 ≤ w2 ∧ w2 ≤ (n : Int)
theorem SpringAt.mono {H : Hp} {a : Addr} {n m : Nat} (h : SpringAt H a n) (e : n ≤ m) : SpringAt H a m := by
  obtain ⟨w0, w1, w2, h1, h2, h3, h4⟩ := h
  exact ⟨w0, w1, w2, h1, h2, h3, by omega⟩
theorem pow_lt {x : Int} {k n : Nat} (h : x.natAbs < 2 ^ k) (hn : n ≠ 0) : (x ^ n).natAbs < 2 ^ (k * n) := by
  rw [Int.natAbs_pow, Nat.pow_mul]
  exact Nat.pow_lt_pow_left h hn
theorem two_le {a b x : Nat} (h : x < 2 ^ a) (e : a ≤ b) : x < 2 ^ b := Nat.lt_of_lt_of_le h (Nat.pow_le_pow_right (by decide) e)
theorem add_lt {x y : Int} {k : Nat} (h1 : x.natAbs < 2 ^ k) (h2 : y.natAbs < 2 ^ k) : (x + y).natAbs < 2 ^ (k + 1) := by
  have h3 := Int.natAbs_add_le x y
  have h4 : 2 ^ (k + 1) = 2 ^ k + 2 ^ k := by rw [Nat.pow_succ]; omega
  omega
theorem emod_lt2 {x m : Int} {k : Nat} (h0 : 0 < m) (h : m.natAbs < 2 ^ k) : (x % m).natAbs < 2 ^ k := by
  have h1 := Int.emod_nonneg x (show m ≠ 0 by omega)
  have h2 := Int.emod_lt_of_pos x h0
  omega
set_option exponentiation.threshold 20000 in
theorem powW {x j : Int} {k : Nat} (h : x.natAbs < 2 ^ k) (hk : k ≤ 10000) (h1 : 0 ≤ j) (h2 : j ≤ 100) : CPowW x j := ⟨h1, h2, two_le h hk⟩
theorem ten_pow {j : Int} (h1 : 0 ≤ j) (h2 : j ≤ 100) : CPowW 10 j := powW (k := 4) (by decide) (by decide) h1 h2
section
variable {P : Program} {w : World} {K : PySem.W.Frag} {mg : Str → Option Value} {base : Heap}
def sp_law_drop (K : PySem.W.Frag) : Sp := fun vs H Q _ => ∃ (a : Addr) (n : Nat) (many : Int), vs = [.ref a, .int many] ∧ SpringAt H a n ∧ n < 2 ^ 100 ∧ 0 < many ∧ many < 2 ^ 100 ∧
  ∀ H' k, But [a] H H' → SpringAt H' a (n + 1) → 0 ≤ k → k < many → Q (.int k) H'
set_option maxHeartbeats 2000000 in
theorem ok_law_drop (T : Txt K mg) {fd : FuncData} (F : FunD K d_law_drop.name d_law_drop.qual d_law_drop.params d_law_drop.body d_law_drop.scope (d_law_drop.dvs K) (d_law_drop.kws K) (He.fAd K d_law_drop.at_) fd) : FnOk P w K mg base C8.CX0 1 (He.fAd K d_law_drop.at_) fd ["spring", "many"] (sp_law_drop K) := by
  refine F.ok sc_law_drop (fun vs H Q E h => ?_) (fun cdv A outer s H vs Q E hr h => ?_)
  · obtain ⟨a, n, many, rfl, _⟩ := h
    rfl
  · have hu := L2.hu_of hr
    obtain ⟨a, n, many, rfl, ⟨w0, w1, w2, ha, hw1, hw2, hw3⟩, hn, hm0, hm1, q⟩ := h
    refine ⟨_, (PSs.nox ((pss_cons (ps_if (pt_cmpR op_gt (pe_ix (My.ix_listK (K := K) rfl) (pv 0) pe_int (fun _ _ => rfl)) pe_int (nomark _))
  (pss_cons (ps_set (i := 2) sc_law_drop.nd rfl (by first | exact Or.inl rfl | exact Or.inr rfl) (pe_op op_mod (pe_callTy call_int1 (by rfl) T.int (by decide +kernel) (pa_cons (pe_ix (My.ix_listK (K := K) rfl) (pv 0) pe_int (fun _ _ => rfl)) pa_nil)) (pv 1)))
  (pss_cons (ps_asg (pe_op op_fdivW (pe_ix (My.ix_listK (K := K) rfl) (pv 0) pe_int (fun _ _ => rfl)) (pv 1)) (pg_sub (pv 0) pe_int set_list))
  (pss_one (ps_ret (pv 2)))))
  pss_nil)
  (pss_cons (ps_asg (pe_op op_add (pe_ix (My.ix_listK (K := K) rfl) (pv 0) pe_int (fun _ _ => rfl)) pe_int) (pg_sub (pv 0) pe_int set_list))
  (pss_cons (ps_set (i := 3) sc_law_drop.nd rfl (by first | exact Or.inl rfl | exact Or.inr rfl) (pe_op op_mod (pe_callTy call_int1 (by rfl) T.int (by decide +kernel) (pa_cons (pe_op op_add (pe_op My.op_powW (pe_ix (My.ix_listK (K := K) rfl) (pv 0) pe_int (fun _ _ => rfl)) pe_int) (pe_op op_mulW pe_int (pe_op My.op_powW (pe_ix (My.ix_listK (K := K) rfl) (pv 0) pe_int (fun _ _ => rfl)) pe_int))) pa_nil)) (pe_op op_add (pe_op My.op_powW pe_int pe_int) pe_int)))
  (pss_cons (ps_set (i := 3) sc_law_drop.nd rfl (by first | exact Or.inl rfl | exact Or.inr rfl) (pe_op op_mod (pe_callTy call_int1 (by rfl) T.int (by decide +kernel) (pa_cons (pe_op My.op_powW (pe_op op_add (pv 3) pe_int) pe_int) pa_nil)) (pe_op op_add (pe_op My.op_powW pe_int pe_int) pe_int)))
  (pss_one (ps_ret (pe_op op_mod (pe_callTy call_int1 (by rfl) T.int (by decide +kernel) (pa_cons (pe_op op_fdivW (pv 3) (pe_op My.op_powW pe_int pe_int)) pa_nil)) (pv 1)))))))))), ?_⟩
    have hmW : CDivW w0 many := wide_div (b := 100) hm0 (by omega) (by decide) (by decide)
    refine ⟨_, rfl, a, _, _, _, rfl, rfl, SqL.of ha, rfl, _, _, rfl, rfl, _, rfl, ?_⟩
    refine L2.ite2 (fun c => ?_) (fun c => ?_)
    · refine ⟨_, rfl, a, _, _, _, rfl, rfl, SqL.of ha, rfl, .inl ⟨_, rfl, _, rfl, _, _, rfl, rfl, hm0, ?_⟩⟩
      refine ⟨_, rfl, a, _, _, _, rfl, rfl, SqL.of ha, rfl, _, rfl, _, _, rfl, rfl, hmW, _, rfl, a, _, 0, 0, rfl, rfl, ha, rfl, ?_⟩
      refine ⟨_, rfl, q _ _ ((But.refl _ _).put (.inr (by simp))) ⟨_, w1, w2, upd_same, hw1, hw2, by omega⟩ (Int.emod_nonneg _ (by omega)) (Int.emod_lt_of_pos _ hm0)⟩
    · have b2 : (w2 + 1).natAbs < 2 ^ 101 := by
        have : (2 : Nat) ^ 101 = 2 ^ 100 + 2 ^ 100 := by decide
        omega
      have p2 := pow_lt (n := 2) hw1 (by decide)
      have p3 := pow_lt (n := 3) b2 (by decide)
      have m1 : (179426549 : Int).natAbs < 2 ^ 40 := by decide
      have m37 : (0 : Int) < 10 ^ (37 : Int).toNat + 43 := by decide
      have m35 : (0 : Int) < 10 ^ (35 : Int).toNat + 69 := by decide
      refine ⟨_, rfl, a, _, _, _, rfl, rfl, SqL.of ha, rfl, _, _, rfl, rfl, _, rfl, a, _, 2, 2, rfl, rfl, ha, rfl, ?_⟩
      have ha2 : upd H a (.lst [.int w0, .int w1, .int (w2 + 1)]) a = some (.lst [.int w0, .int w1, .int (w2 + 1)]) := upd_same
      refine ⟨_, rfl, a, _, _, _, rfl, rfl, SqL.of ha2, rfl, _, _, rfl, rfl, powW hw1 (by decide) (by decide) (by decide), ?_⟩
      refine ⟨_, rfl, a, _, _, _, rfl, rfl, SqL.of ha2, rfl, _, _, rfl, rfl, powW b2 (by decide) (by decide) (by decide), ?_⟩
      refine ⟨_, _, rfl, rfl, wide_mul m1 p3 (by decide) (by decide) (by decide), ?_⟩
      refine ⟨_, _, rfl, rfl, .inl ⟨_, rfl, _, _, rfl, rfl, ten_pow (by decide) (by decide), _, _, rfl, rfl, _, _, rfl, rfl, m37, ?_⟩⟩
      have e1 := emod_lt2 (x := (w1 ^ (2 : Int).toNat + 179426549 * (w2 + 1) ^ (3 : Int).toNat)) (m := 10 ^ (37 : Int).toNat + 43) (k := 130) (by decide) (by decide)
      have e2 := add_lt (y := 15487469) e1 (by decide)
      refine ⟨_, rfl, _, _, rfl, rfl, _, _, rfl, rfl, powW e2 (by decide) (by decide) (by decide), .inl ⟨_, rfl, ?_⟩⟩
      refine ⟨_, _, rfl, rfl, ten_pow (by decide) (by decide), _, _, rfl, rfl, _, _, rfl, rfl, m35, ?_⟩
      refine ⟨_, rfl, _, _, rfl, rfl, ten_pow (by decide) (by decide), _, _, rfl, rfl, wide_div (b := 100) (by decide) (by decide) (by decide) (by decide), .inl ⟨_, rfl, ?_⟩⟩
      refine ⟨_, rfl, _, _, rfl, rfl, hm0, ?_⟩
      exact q _ _ ((But.refl _ _).put (.inr (by simp))) ⟨_, w1, w2 + 1, upd_same, hw1, by omega, by omega⟩ (Int.emod_nonneg _ (by omega)) (Int.emod_lt_of_pos _ hm0)
theorem c_law_drop (T : Txt K mg) : C8.Cal P w K mg base 1 "_law_drop" (sp_law_drop K) [] := by
  obtain ⟨fd, F⟩ := T.f_law_drop
  exact ⟨_, fd, _, _, ok_law_drop T F, T.g_law_drop, F.kp, F.bindsN (fun _ _ _ _ _ _ us hl => match us, hl with | [_, _], _ => rfl), .nil⟩
def sp_law_spring (K : PySem.W.Frag) : Sp := fun vs H Q _ => ∃ (a : Addr) (ns : List Int) (k : Int), vs = [.ref a, .int k] ∧ SqL K H a (ns.map V.int) ∧ 0 ≤ k ∧ k < 100 ∧
  ∀ H' p, H p = none → Same H H' → SpringAt H' p 1 → Q (.ref p) H'
set_option maxHeartbeats 2000000 in
theorem ok_law_spring (T : Txt K mg) {fd : FuncData} (F : FunD K d_law_spring.name d_law_spring.qual d_law_spring.params d_law_spring.body d_law_spring.scope (d_law_spring.dvs K) (d_law_spring.kws K) (He.fAd K d_law_spring.at_) fd) : FnOk P w K mg base C8.CX0 1 (He.fAd K d_law_spring.at_) fd ["script", "k"] (sp_law_spring K) := by
  refine F.ok sc_law_spring (fun vs H Q E h => ?_) (fun cdv A outer s H vs Q E hr h => ?_)
  · obtain ⟨a, ns, k, rfl, _⟩ := h
    rfl
  · have hu := L2.hu_of hr
    obtain ⟨a, ns, k, rfl, hS, hk0, hk1, q⟩ := h
    refine ⟨_, (PSs.nox ((pss_cons (ps_set (i := 2) sc_law_spring.nd rfl (by first | exact Or.inl rfl | exact Or.inr rfl) (pe_ifExp (pt_cmpR op_lt (pv 1) (pe_callB (My.len_seqK (K := K) rfl) (by rfl) T.len (by decide +kernel) (pa_cons (pv 0) pa_nil)) (nomark _)) (pe_callTy call_int1 (by rfl) T.int (by decide +kernel) (pa_cons (pe_ix (My.ix_listK (K := K) rfl) (pv 0) (pv 1) (fun _ _ => rfl)) pa_nil)) pe_int))
  (pss_one (ps_ret (pe_lst (pa_cons (pe_callB (call_max2 rfl) (by rfl) T.max (by decide +kernel) (pa_cons pe_int (pa_cons (pe_op op_sub (pe_callB call_abs (by rfl) T.abs (by decide +kernel) (pa_cons (pv 2) pa_nil)) (pe_op My.op_powW pe_int pe_int)) pa_nil))) (pa_cons (pe_op op_add (pe_op op_mod (pe_callTy call_int1 (by rfl) T.int (by decide +kernel) (pa_cons (pv 2) pa_nil)) (pe_op op_add (pe_op My.op_powW pe_int pe_int) pe_int)) (pe_op op_mulW pe_int (pe_op op_add (pv 1) pe_int))) (pa_cons pe_int pa_nil))))))))), ?_⟩
    have fin : ∀ cell : Int, (∀ p, H p = none → ∀ w0, Q (.ref p) (upd H p (.lst [.int w0, .int (cell % (10 ^ (31 : Int).toNat + 33) + 2750159 * (k + 1)), .int 1]))) := by
      intro cell p hp w0
      refine q _ p hp (same_new hp) ⟨_, _, _, upd_same, ?_, by decide, by decide⟩
      have e1 := emod_lt2 (x := cell) (m := 10 ^ (31 : Int).toNat + 33) (k := 110) (by decide) (by decide)
      have e2 : (2750159 * (k + 1)).natAbs < 2 ^ 110 := by
        have : (2 : Nat) ^ 110 > 300000000 := by decide
        omega
      exact two_le (add_lt e1 e2) (by decide)
    refine ⟨_, rfl, _, rfl, a, _, rfl, .inl hS, _, _, rfl, rfl, _, rfl, ?_⟩
    have m31 : (0 : Int) < 10 ^ (31 : Int).toNat + 33 := by decide
    have mk : CMulW 2750159 (k + 1) := by
      refine wide_mul (a := 40) (b := 40) (by decide) ?_ (by decide) (by decide) (by decide)
      have : (2 : Nat) ^ 40 > 1000 := by decide
      omega
    rw [List.length_map]
    refine L2.ite2 (fun c => ?_) (fun c => ?_)
    · have hlt : k < (ns.length : Int) := of_decide_eq_true c
      obtain ⟨j, rfl⟩ : ∃ j : Nat, k = (j : Int) := ⟨k.toNat, by omega⟩
      have hj : j < ns.length := by omega
      refine ⟨_, rfl, _, rfl, a, _, _, _, rfl, rfl, hS, atI_nat (by rw [List.getElem?_map, List.getElem?_eq_getElem hj]; rfl), .inl ⟨_, rfl, ?_⟩⟩
      refine ⟨_, rfl, _, rfl, _, _, rfl, rfl, ten_pow (by decide) (by decide), _, _, rfl, rfl, _, _, rfl, ?_⟩
      refine ⟨_, rfl, .inl ⟨_, rfl, _, _, rfl, rfl, ten_pow (by decide) (by decide), _, _, rfl, rfl, _, _, rfl, rfl, m31, ?_⟩⟩
      refine ⟨_, rfl, _, _, rfl, rfl, _, _, rfl, rfl, mk, _, _, rfl, rfl, by show 3 ≤ sizeLine; decide, fun p hp => fin _ p hp _⟩
    · refine ⟨_, rfl, _, rfl, _, _, rfl, rfl, ten_pow (by decide) (by decide), _, _, rfl, rfl, _, _, rfl, ?_⟩
      refine ⟨_, rfl, .inl ⟨_, rfl, _, _, rfl, rfl, ten_pow (by decide) (by decide), _, _, rfl, rfl, _, _, rfl, rfl, m31, ?_⟩⟩
      refine ⟨_, rfl, _, _, rfl, rfl, _, _, rfl, rfl, mk, _, _, rfl, rfl, by show 3 ≤ sizeLine; decide, fun p hp => fin _ p hp _⟩
theorem c_law_spring (T : Txt K mg) : C8.Cal P w K mg base 1 "_law_spring" (sp_law_spring K) [] := by
  obtain ⟨fd, F⟩ := T.f_law_spring
  exact ⟨_, fd, _, _, ok_law_spring T F, T.g_law_spring, F.kp, F.bindsN (fun _ _ _ _ _ _ us hl => match us, hl with | [_, _], _ => rfl), .nil⟩
end
end K32

namespace K32
open PySem PySem.Spec PyProof.Rows L2 My
theorem SpringAt.put {H : Hp} {a b : Addr} {n : Nat} {o : HO} (h : SpringAt H a n) (ne : a ≠ b) : SpringAt (upd H b o) a n := by
  obtain ⟨w0, w1, w2, h1, h2⟩ := h
  exact ⟨w0, w1, w2, by rw [upd_ne ne]; exact h1, h2⟩
theorem SpringAt.same {H H' : Hp} {a : Addr} {n : Nat} (s : Same H H') (h : SpringAt H a n) : SpringAt H' a n := by
  obtain ⟨w0, w1, w2, h1, h2⟩ := h
  exact ⟨w0, w1, w2, s _ _ h1, h2⟩
/-- a list of other things stands apart from a spring -/
theorem SpringAt.ne {H : Hp} {a b : Addr} {n : Nat} {o : HO} (h : SpringAt H a n) (hb : H b = some o) (no : ∀ i r, o ≠ .lst (.int i :: r)) : a ≠ b := by
  obtain ⟨w0, w1, w2, h1, _⟩ := h
  exact ne_of h1 hb fun z => no _ _ z.symm
theorem strs_no (ws : List Str) (i : Int) (r : List V) : HO.lst (ws.map V.str) ≠ .lst (.int i :: r) := by
  intro z
  cases ws with
  | nil => cases z
  | cons x l => cases z
theorem refs_no (ws : List Addr) (i : Int) (r : List V) : HO.lst (ws.map V.ref) ≠ .lst (.int i :: r) := by
  intro z
  cases ws with
  | nil => cases z
  | cons x l => cases z
theorem tup_no (ws : List V) (i : Int) (r : List V) : HO.tup ws ≠ .lst (.int i :: r) := fun z => by cases z
/-- a tuple stands as it was behind a change of a spring -/
theorem But.tupS {K : PySem.W.Frag} {H H' : Hp} {a b : Addr} {n : Nat} {xs : List V} (s : But [a] H H') (h : SpringAt H a n) (t : SqT K H b xs) : SqT K H' b xs := by
  obtain ⟨w0, w1, w2, h1, _⟩ := h
  rcases t with (t | ⟨o, t⟩) | t
  · exact .inl (.inl (s _ _ (by simpa using (ne_of t h1 (fun z => by cases z))) t))
  · exact .inl (.inr ⟨o, s _ _ (by simpa using (ne_of t h1 (fun z => by cases z))) t⟩)
  · exact .inr t
section
variable {P : Program} {w : World} {K : PySem.W.Frag} {mg : Str → Option Value} {base : Heap}
def sp_law_springs (K : PySem.W.Frag) : Sp := fun vs H Q _ => ∃ (a : Addr) (ns : List Int), vs = [.ref a] ∧ SqL K H a (ns.map V.int) ∧ ns.length ≤ 63 ∧
  ∀ H' p as, H p = none → Same H H' → H' p = some (.lst (as.map V.ref)) → as ≠ [] → as.length ≤ 63 → (∀ x ∈ as, H x = none ∧ SpringAt H' x 1) → Q (.ref p) H'
set_option maxHeartbeats 2000000 in
theorem ok_law_springs (T : Txt K mg) {fd : FuncData} (F : FunD K d_law_springs.name d_law_springs.qual d_law_springs.params d_law_springs.body d_law_springs.scope (d_law_springs.dvs K) (d_law_springs.kws K) (He.fAd K d_law_springs.at_) fd) : FnOk P w K mg base C8.CX0 2 (He.fAd K d_law_springs.at_) fd ["script"] (sp_law_springs K) := by
  have c_law_spring := c_law_spring (P := P) (w := w) (base := base) T
  refine F.ok sc_law_springs (fun vs H Q E h => ?_) (fun cdv A outer s H vs Q E hr h => ?_)
  · obtain ⟨a, ns, rfl, _⟩ := h
    rfl
  · have hu := L2.hu_of hr
    obtain ⟨a, ns, rfl, hS, hl, q⟩ := h
    refine ⟨_, (PSs.nox ((pss_one (ps_ret (pe_lc (own := [("k", 1)]) (g := (gName 1)) (tt := tYes) (by rfl) sc_law_springs.nd (pi_range1 (by rfl) T.range (pa_cons (pe_callB (call_max2 rfl) (by rfl) T.max (by decide +kernel) (pa_cons pe_int (pa_cons (pe_callB (call_min2 rfl) (by rfl) T.min (by decide +kernel) (pa_cons pe_int (pa_cons (pe_callB (My.len_seqK (K := K) rfl) (by rfl) T.len (by decide +kernel) (pa_cons (pv 0) pa_nil)) pa_nil))) pa_nil))) pa_nil)) (blkOk_by (N := N_law_springs) (sc := defScope s_law_springs) (by decide +kernel)) (fun _ _ _ _ _ => (pg_name (i := 1) sc_law_springs.nd rfl (by first | exact Or.inl rfl | exact Or.inr rfl))) (fun _ _ _ _ _ => pts_nil) (fun _ _ _ _ _ => (C8.pe_c c_law_spring hr (by decide) rfl (pa_cons (pv 0) (pa_cons (pv 1) pa_nil))))))))), ?_⟩
    obtain ⟨m, hm, hm1, hm2⟩ : ∃ m : Nat, (if (if (((ns.map V.int).length : Nat) : Int) < 63 then (((ns.map V.int).length : Nat) : Int) else 63) > 1 then (if (((ns.map V.int).length : Nat) : Int) < 63 then (((ns.map V.int).length : Nat) : Int) else 63) else 1) = (m : Int) ∧ 1 ≤ m ∧ m ≤ 63 := by
      rw [List.length_map]
      split <;> split <;> first | exact ⟨ns.length, by omega, by omega, by omega⟩ | exact ⟨1, by omega, by omega, by omega⟩ | exact ⟨63, by omega, by omega, by omega⟩
    refine ⟨_, rfl, a, _, rfl, .inl hS, _, _, rfl, _, _, rfl, (m : Int), (by rw [hm]), by omega, by omega, fun D hD => ?_⟩
    refine lc_range (lo := 0) (n := (m : Int).toNat) (fun i H' => ∃ as : List Addr, as.length = i ∧ Same H H' ∧ H' D = some (.lst (as.map V.ref)) ∧ ∀ x ∈ as, H x = none ∧ SpringAt H' x 1) ⟨[], rfl, same_new hD, upd_same, fun x hx => by cases hx⟩ ?_ ?_
    · rintro i H2 hi ⟨as, hl2, s2, hD2, hs⟩
      refine ⟨rfl, ?_⟩
      refine ⟨_, rfl, _, rfl, a, ns, _, rfl, s2.seq hS, by omega, by omega, fun H3 p hp s3 hsp => ?_⟩
      have hpD : p ≠ D := (ne_of_none hD2 hp).symm
      refine ⟨_, s3 _ _ hD2, ?_, as ++ [p], by rw [List.length_append, hl2]; rfl, same_upd (s2.trans s3) hD, by rw [upd_same, List.map_append]; rfl, ?_⟩
      · rw [List.length_map, hl2]
        exact Nat.lt_of_lt_of_le hi (by show (m : Int).toNat ≤ sizeLine; have : m ≤ sizeLine := Nat.le_trans hm2 (by decide); omega)
      · intro x hx
        rcases List.mem_append.mp hx with hx | hx
        · obtain ⟨h1, h2⟩ := hs x hx
          exact ⟨h1, (h2.same s3).put (h2.ne hD2 (refs_no as))⟩
        · obtain rfl := List.mem_singleton.mp hx
          exact ⟨s2.free hp, hsp.put hpD⟩
    · rintro H2 ⟨as, hl2, s2, hD2, hs⟩
      refine q _ D as hD s2 hD2 (fun z => ?_) (by omega) hs
      rw [z] at hl2
      have : (0 : Nat) = (m : Int).toNat := hl2
      omega
theorem c_law_springs (T : Txt K mg) : C8.Cal P w K mg base 2 "_law_springs" (sp_law_springs K) [] := by
  obtain ⟨fd, F⟩ := T.f_law_springs
  exact ⟨_, fd, _, _, ok_law_springs T F, T.g_law_springs, F.kp, F.bindsN (fun _ _ _ _ _ _ us hl => match us, hl with | [_], _ => rfl), .nil⟩
def sp_law_rule (K : PySem.W.Frag) : Sp := fun vs H Q _ => ∃ (a b : Addr) (n : Nat) (ws : List Str) (most : Nat), vs = [.ref a, .ref b, .int (most : Int)] ∧ SpringAt H a n ∧ SqL K H b (ws.map V.str) ∧ ws ≠ [] ∧ ws.length ≤ 100 ∧ most ≤ 100 ∧ n < 2 ^ 99 ∧
  ∀ H' p r, But [a] H H' → SpringAt H' a (n + most + 1) → RuleAt K H' p r → r.length ≤ most → (∀ x ∈ r, x ∈ ws) → Q (.ref p) H'
theorem lstS {K : PySem.W.Frag} {H H' : Hp} {a b : Addr} {n : Nat} {xs : List V} (s : But [a] H H') (h : SpringAt H a n) (t : SqL K H b xs) (no : ∀ i r, HO.lst xs ≠ .lst (.int i :: r)) : SqL K H' b xs := by
  obtain ⟨w0, w1, w2, h1, _⟩ := h
  rcases t with (t | ⟨o, t⟩) | t
  · exact .inl (.inl (s _ _ (by simpa using (ne_of t h1 (fun z => no _ _ z))) t))
  · exact .inl (.inr ⟨o, s _ _ (by simpa using (ne_of t h1 (fun z => by cases z))) t⟩)
  · exact .inr t
set_option maxHeartbeats 2000000 in
theorem ok_law_rule (T : Txt K mg) {fd : FuncData} (F : FunD K d_law_rule.name d_law_rule.qual d_law_rule.params d_law_rule.body d_law_rule.scope (d_law_rule.dvs K) (d_law_rule.kws K) (He.fAd K d_law_rule.at_) fd) : FnOk P w K mg base C8.CX0 2 (He.fAd K d_law_rule.at_) fd ["spring", "words", "most"] (sp_law_rule K) := by
  have c_law_drop := c_law_drop (P := P) (w := w) (base := base) T
  refine F.ok sc_law_rule (fun vs H Q E h => ?_) (fun cdv A outer s H vs Q E hr h => ?_)
  · obtain ⟨a, b, n, ws, most, rfl, _⟩ := h
    rfl
  · have hu := L2.hu_of hr
    obtain ⟨a, b, n, ws, most, rfl, hs, hb, hne, hlen, hmost, hn, q⟩ := h
    refine ⟨_, (PSs.nox ((pss_one (ps_ret (pe_callTy (My.tuple_ofK (K := K) rfl) (by rfl) T.tuple (by decide +kernel) (pa_cons (pe_lc (own := [("k", 3)]) (g := (gName 3)) (tt := tYes) (by rfl) sc_law_rule.nd (pi_range1 (by rfl) T.range (pa_cons (C8.pe_c c_law_drop hr (by decide) rfl (pa_cons (pv 0) (pa_cons (pe_op op_add (pv 2) pe_int) pa_nil))) pa_nil)) (blkOk_by (N := N_law_rule) (sc := defScope s_law_rule) (by decide +kernel)) (fun _ _ _ _ _ => (pg_name (i := 3) sc_law_rule.nd rfl (by first | exact Or.inl rfl | exact Or.inr rfl))) (fun _ _ _ _ _ => pts_nil) (fun _ _ _ _ _ => (pe_ix (My.ix_listK (K := K) rfl) (pv 1) (C8.pe_c c_law_drop hr (by decide) rfl (pa_cons (pv 0) (pa_cons (pe_callB (My.len_seqK (K := K) rfl) (by rfl) T.len (by decide +kernel) (pa_cons (pv 1) pa_nil)) pa_nil))) (fun _ _ => rfl)))) pa_nil)))))), ?_⟩
    have e100 : (2 : Nat) ^ 100 = 2 ^ 99 + 2 ^ 99 := by decide
    have e1000 : (2 : Nat) ^ 99 > 1000 := by decide
    have i100 : (2 : Int) ^ 100 > 1000 := by decide
    refine ⟨_, rfl, _, rfl, _, _, rfl, rfl, ?_⟩
    refine ⟨a, n, _, rfl, hs, by omega, by omega, by omega, fun H1 k b1 s1 hk0 hk1 => ?_⟩
    refine ⟨k, rfl, by omega, by omega, fun D hD => ?_⟩
    have haD : a ≠ D := by
      obtain ⟨_, _, _, h1, _⟩ := s1
      exact ne_of_none h1 hD
    have hb1 : SqL K H1 b (ws.map V.str) := lstS b1 hs hb (strs_no ws)
    have hHD : H D = none := b1.none (by simpa using haD.symm) hD
    have hbH : ∀ H' : Hp, But [a] H H' → SqL K H' b (ws.map V.str) := fun H' z => lstS z hs hb (strs_no ws)
    refine lc_range (lo := 0) (n := k.toNat) (fun i H' => ∃ r : RuleL, r.length = i ∧ But [a] H H' ∧ SpringAt H' a (n + 1 + i) ∧ H' D = some (.lst (r.map V.str)) ∧ ∀ x ∈ r, x ∈ ws) ⟨[], rfl, b1.put (.inl hHD), s1.put haD, upd_same, fun x hx => by cases hx⟩ ?_ ?_
    · rintro i H2 hi ⟨r, hl2, b2, s2, hD2, hr2⟩
      refine ⟨rfl, ?_⟩
      refine ⟨_, rfl, _, rfl, _, rfl, b, _, rfl, .inl (hbH H2 b2), a, n + 1 + i, ((ws.map V.str).length : Int), rfl, s2, by omega, ?_, by rw [List.length_map]; omega, fun H3 j b3 s3 hj0 hj1 => ?_⟩
      · rw [List.length_map]
        cases ws with
        | nil => exact absurd rfl hne
        | cons x l => show (0 : Int) < ((l.length + 1 : Nat) : Int); omega
      · rw [List.length_map] at hj1
        have hj : j.toNat < ws.length := by omega
        have b23 : But [a] H H3 := b2.trans b3
        refine ⟨b, _, _, V.str (ws[j.toNat]'hj), rfl, rfl, hbH H3 b23, ?_, ?_⟩
        · exact at_of (j := j.toNat) (by omega) (by rw [List.getElem?_map, List.getElem?_eq_getElem hj]; rfl)
        · have hD3 : H3 D = some (.lst (r.map V.str)) := b3 _ _ (by simpa using haD.symm) hD2
          refine ⟨_, hD3, ?_, r ++ [ws[j.toNat]], by rw [List.length_append, hl2]; rfl, b23.put (.inl hHD), s3.put haD, by rw [upd_same, List.map_append]; rfl, fun x hx => ?_⟩
          · rw [List.length_map, hl2]
            exact Nat.lt_of_lt_of_le (show i < 200 by omega) (by decide)
          · rcases List.mem_append.mp hx with hx | hx
            · exact hr2 x hx
            · rw [List.mem_singleton.mp hx]
              exact List.getElem_mem hj
    · rintro H2 ⟨r, hl2, b2, s2, hD2, hr2⟩
      refine ⟨D, _, rfl, .inl ⟨SqL.of hD2, fun l hl => ?_⟩⟩
      have hal : a ≠ l := by
        obtain ⟨_, _, _, h1, _⟩ := s2
        exact ne_of_none h1 hl
      have hHl : H l = none := b2.none (by simpa using hal.symm) hl
      exact q _ l r (b2.put (.inl hHl)) ((s2.put hal).mono (by omega)) (SqT.of upd_same) (by omega) hr2
theorem c_law_rule (T : Txt K mg) : C8.Cal P w K mg base 2 "_law_rule" (sp_law_rule K) [] := by
  obtain ⟨fd, F⟩ := T.f_law_rule
  exact ⟨_, fd, _, _, ok_law_rule T F, T.g_law_rule, F.kp, F.bindsN (fun _ _ _ _ _ _ us hl => match us, hl with | [_, _, _], _ => rfl), .nil⟩
end
end K32

namespace K32
open PySem PySem.Spec PyProof.Rows L2 My
/-! ### deeds -/
inductive Deed where
  | bring (l s : Bool) | code (p : Int) (t s : Bool) | pass | day | power
  deriving DecidableEq
def Deed.w : Deed → Str
  | .bring _ _ => "bring"
  | .code _ _ _ => "code"
  | .pass => "pass"
  | .day => "day"
  | .power => "power"
def Deed.vs : Deed → List V
  | .bring l s => [.str "bring", .bl l, .bl s]
  | .code p t s => [.str "code", .int p, .bl t, .bl s]
  | .pass => [.str "pass"]
  | .day => [.str "day"]
  | .power => [.str "power"]
def Deed.Ok : Deed → Prop
  | .code p _ _ => 1 ≤ p ∧ p ≤ 1000000000
  | _ => True
def DeedAt (K : PySem.W.Frag) (H : Hp) (v : V) (d : Deed) : Prop := ∃ a, v = .ref a ∧ SqT K H a d.vs
def isBr : Deed → Bool
  | .bring _ _ => true
  | _ => false
def brs (l : List Deed) : Nat := l.countP isBr
def Playable (ds : List Deed) : Prop := ds.length ≤ 100000000 ∧ ∀ i p t s, ds[i]? = some (.code p t s) → 1 ≤ p ∧ p ≤ (brs (ds.take i) : Int)
theorem brs_le (l : List Deed) : brs l ≤ l.length := List.countP_le_length
theorem Playable.ok {ds : List Deed} (h : Playable ds) : ∀ d ∈ ds, d.Ok := by
  intro d hd
  obtain ⟨i, hi⟩ := List.mem_iff_getElem?.mp hd
  cases d with
  | code p t s =>
    obtain ⟨h1, h2⟩ := h.2 i p t s hi
    have h3 := brs_le (ds.take i)
    have h4 : (ds.take i).length ≤ ds.length := by rw [List.length_take]; omega
    have h5 := h.1
    exact ⟨h1, by omega⟩
  | _ => trivial
theorem take_more {α : Type} {l : List α} {i : Nat} {x : α} (h : l[i]? = some x) : l.take (i + 1) = l.take i ++ [x] := by
  rw [List.take_add_one, h]
  rfl
theorem brs_more {l : List Deed} {i : Nat} {d : Deed} (h : l[i]? = some d) : brs (l.take (i + 1)) = brs (l.take i) + (if isBr d then 1 else 0) := by
  unfold brs
  rw [take_more h, List.countP_append, List.countP_singleton]
section
variable {P : Program} {w : World} {K : PySem.W.Frag} {mg : Str → Option Value} {base : Heap}
def sp_are_truths (K : PySem.W.Frag) : Sp := fun vs H Q _ => ∃ (a : Addr) (bs : List Bool), vs = [.ref a] ∧ SqT K H a (bs.map V.bl) ∧ bs.length ≤ 100 ∧ ∀ H', Same H H' → Q (.bl true) H'
set_option maxHeartbeats 2000000 in
theorem ok_are_truths (T : Txt K mg) {fd : FuncData} (F : FunD K d_are_truths.name d_are_truths.qual d_are_truths.params d_are_truths.body d_are_truths.scope (d_are_truths.dvs K) (d_are_truths.kws K) (He.fAd K d_are_truths.at_) fd) : FnOk P w K mg base C8.CX0 2 (He.fAd K d_are_truths.at_) fd ["values"] (sp_are_truths K) := by
  have c_is_truth := c_is_truth (P := P) (w := w) (base := base) T
  refine F.ok sc_are_truths (fun vs H Q E h => ?_) (fun cdv A outer s H vs Q E hr h => ?_)
  · obtain ⟨a, bs, rfl, _⟩ := h
    rfl
  · have hu := L2.hu_of hr
    obtain ⟨a, bs, rfl, hS, hl, q⟩ := h
    refine ⟨_, (PSs.nox ((pss_one (ps_ret (pe_callB (My.allK (K := K) rfl rfl) (by rfl) T.all (by decide +kernel) (pa_cons (pe_lc (own := [("value", 1)]) (g := (gName 1)) (tt := tYes) (by rfl) sc_are_truths.nd (My.pi_tupK (K := K) rfl (pv 0)) (blkOk_by (N := N_are_truths) (sc := defScope s_are_truths) (by decide +kernel)) (fun _ _ _ _ _ => (pg_name (i := 1) sc_are_truths.nd rfl (by first | exact Or.inl rfl | exact Or.inr rfl))) (fun _ _ _ _ _ => pts_nil) (fun _ _ _ _ _ => (C8.pe_c c_is_truth hr (by decide) rfl (pa_cons (pv 1) pa_nil)))) pa_nil)))))), ?_⟩
    refine ⟨_, rfl, a, rfl, ⟨_, hS⟩, fun D hD => lc_tup (K := K) (a := a) (xs := bs.map V.bl) (fun i H' => Same H H' ∧ H' D = some (.lst ((List.replicate i true).map V.bl))) ⟨same_new hD, upd_same⟩ (fun i H' _ p => same_tup p.1 hS) ?_ ?_⟩
    · rintro i y H2 hi ⟨s2, hD2⟩
      obtain ⟨z, hz, rfl⟩ := map_get hi
      have hlt : i < bs.length := (List.getElem?_eq_some_iff.mp hz).1
      refine ⟨rfl, ?_⟩
      refine ⟨_, rfl, z, rfl, _, hD2, ?_, same_upd s2 hD, ?_⟩
      · rw [List.length_map, List.length_replicate]
        exact Nat.lt_of_lt_of_le (show i < 100 by omega) (by decide)
      · rw [upd_same, List.replicate_succ', List.map_append]
        rfl
    · rintro H2 ⟨s2, hD2⟩
      refine ⟨D, _, rfl, SqL.of hD2, ?_⟩
      have e2 : (List.replicate (bs.map V.bl).length true).all id = true := List.all_eq_true.mpr fun x hx => (List.mem_replicate.mp hx).2
      rw [e2]
      exact q _ s2
theorem c_are_truths (T : Txt K mg) : C8.Cal P w K mg base 2 "are_truths" (sp_are_truths K) [] := by
  obtain ⟨fd, F⟩ := T.f_are_truths
  exact ⟨_, fd, _, _, ok_are_truths T F, T.g_are_truths, F.kp, F.bindsN (fun _ _ _ _ _ _ us hl => match us, hl with | [_], _ => rfl), .nil⟩
def sp_is_deed (K : PySem.W.Frag) : Sp := fun vs H Q _ => ∃ (v : V) (d : Deed), vs = [v] ∧ DeedAt K H v d ∧ d.Ok ∧ ∀ H', Same H H' → Q (.bl true) H'
set_option maxHeartbeats 2000000 in
theorem ok_is_deed (T : Txt K mg) {fd : FuncData} (F : FunD K d_is_deed.name d_is_deed.qual d_is_deed.params d_is_deed.body d_is_deed.scope (d_is_deed.dvs K) (d_is_deed.kws K) (He.fAd K d_is_deed.at_) fd) : FnOk P w K mg base C8.CX0 3 (He.fAd K d_is_deed.at_) fd ["value"] (sp_is_deed K) := by
  obtain ⟨t_MOST_PARCEL, g_MOST_PARCEL⟩ := T.g_MOST_PARCEL
  have c_are_truths := c_are_truths (P := P) (w := w) (base := base) T
  have c_is_integer_within := c_is_integer_within (P := P) (w := w) (base := base) T
  refine F.ok sc_is_deed (fun vs H Q E h => ?_) (fun cdv A outer s H vs Q E hr h => ?_)
  · obtain ⟨v, d, rfl, _⟩ := h
    rfl
  · have hu := L2.hu_of hr
    obtain ⟨v, d, rfl, ⟨a, rfl, hS⟩, hok, q⟩ := h
    refine ⟨_, (PSs.nox ((pss_cons (ps_if (PW.pt (pw_or (pt_not (pt_val (pe_callB (My.isiK (K := K) rfl) (by rfl) T.isinstance (by decide +kernel) (pa_cons (pv 0) (pa_cons (pe_bltn (v := .ty "tuple") (u := .type "tuple") rfl T.tuple (by decide +kernel) rfl) pa_nil))))) (pw_or (pt_cmpR op_eq (pe_callB (My.len_seqK (K := K) rfl) (by rfl) T.len (by decide +kernel) (pa_cons (pv 0) pa_nil)) pe_int (nomark _)) (pw_or1 (pt_not (pt_val (pe_callB (My.isiK (K := K) rfl) (by rfl) T.isinstance (by decide +kernel) (pa_cons (pe_ix (My.ix_tupK (K := K) rfl) (pv 0) pe_int (fun _ _ => rfl)) (pa_cons (pe_bltn (v := .ty "str") (u := .type "str") rfl T.str (by decide +kernel) rfl) pa_nil)))))))))
  (pss_one (ps_ret pe_bl))
  pss_nil)
  (pss_cons (ps_set (i := 1) sc_is_deed.nd rfl (by first | exact Or.inl rfl | exact Or.inr rfl) (pe_ix (My.ix_tupK (K := K) rfl) (pv 0) pe_int (fun _ _ => rfl)))
  (pss_cons (ps_if (pt_cmpR op_eq (pv 1) pe_str (nomark _))
  (pss_one (ps_ret (pe_and (pe_cmpR op_eq (pe_callB (My.len_seqK (K := K) rfl) (by rfl) T.len (by decide +kernel) (pa_cons (pv 0) pa_nil)) pe_int (nomark _)) (pe_one (C8.pe_c c_are_truths hr (by decide) rfl (pa_cons (pe_slice (My.sl_tupAK (K := K) rfl) (pv 0) (po_some pe_int) po_none) pa_nil))))))
  pss_nil)
  (pss_cons (ps_if (pt_cmpR op_eq (pv 1) pe_str (nomark _))
  (pss_one (ps_ret (pe_and (pe_cmpR op_eq (pe_callB (My.len_seqK (K := K) rfl) (by rfl) T.len (by decide +kernel) (pa_cons (pv 0) pa_nil)) pe_int (nomark _)) (pe_and (C8.pe_c c_is_integer_within hr (by decide) rfl (pa_cons (pe_ix (My.ix_tupK (K := K) rfl) (pv 0) pe_int (fun _ _ => rfl)) (pa_cons pe_int (pa_cons (pe_glob (v := .int 1000000000) rfl g_MOST_PARCEL ⟨_, rfl⟩) pa_nil)))) (pe_one (C8.pe_c c_are_truths hr (by decide) rfl (pa_cons (pe_slice (My.sl_tupAK (K := K) rfl) (pv 0) (po_some pe_int) po_none) pa_nil)))))))
  pss_nil)
  (pss_one (ps_ret (pe_and (pe_cmpR op_eq (pe_callB (My.len_seqK (K := K) rfl) (by rfl) T.len (by decide +kernel) (pa_cons (pv 0) pa_nil)) pe_int (nomark _)) (pe_one (pe_cmpR (My.in_seqK (K := K) rfl) (pv 1) (pe_glob (v := .ref (He.ga K "SINGLE_WORDS")) rfl T.g_SINGLE_WORDS rfl) (by rfl)))))))))))), ?_⟩
    have len : ∀ k : Int, decide (V.int ((d.vs.length : Nat) : Int) = V.int k) = decide ((d.vs.length : Int) = k) := fun k => decide_eq_decide.mpr ⟨fun z => V.int.inj z, fun z => congrArg V.int z⟩
    have w0 : atI d.vs 0 = some (.str d.w) := by cases d <;> rfl
    have l0 : decide (V.int ((d.vs.length : Nat) : Int) = V.int 0) = false := by rw [len]; cases d <;> rfl
    refine ⟨_, rfl, _, _, _, _, _, rfl, .ty "tuple", tyx_tup hS, L2.kit_ty (by decide +kernel), true, rfl, ?_⟩
    refine ⟨_, rfl, a, _, rfl, .inr hS, rfl, _, rfl, ?_⟩
    rw [l0]
    refine ⟨_, rfl, a, _, _, _, rfl, rfl, hS, w0, _, _, _, _, _, rfl, .ty "str", .base (.str d.w), L2.kit_ty (by decide +kernel), true, rfl, ?_⟩
    refine ⟨_, rfl, a, _, _, _, rfl, rfl, hS, w0, ?_⟩
    refine ⟨_, rfl, rfl, _, rfl, ?_⟩
    cases d with
    | bring l s =>
      refine ⟨_, rfl, a, _, rfl, .inr hS, rfl, _, rfl, ?_⟩
      refine ⟨_, rfl, 1, rfl, a, _, rfl, hS, fun z => absurd (show HT.sIx 3 0 (some 1) = 0 from z.1) (by decide), fun _ p hp => ?_⟩
      exact ⟨p, [l, s], rfl, SqT.of upd_same, (by show 2 ≤ 100; decide), fun H' s' => q _ ((same_new hp).trans s')⟩
    | code p t s =>
      refine ⟨_, rfl, rfl, _, rfl, ?_⟩
      refine ⟨_, rfl, a, _, rfl, .inr hS, rfl, _, rfl, ?_⟩
      refine ⟨_, rfl, a, _, 1, _, rfl, rfl, hS, rfl, p, 1, 1000000000, rfl, true, ?_, ?_⟩
      · rw [decide_eq_true hok.1, decide_eq_true hok.2]
        rfl
      refine ⟨_, rfl, 2, rfl, a, _, rfl, hS, fun z => absurd (show HT.sIx 4 0 (some 2) = 0 from z.1) (by decide), fun _ p2 hp => ?_⟩
      exact ⟨p2, [t, s], rfl, SqT.of upd_same, (by show 2 ≤ 100; decide), fun H' s' => q _ ((same_new hp).trans s')⟩
    | pass =>
      refine ⟨_, rfl, rfl, _, rfl, ?_⟩
      refine ⟨_, rfl, a, _, rfl, .inr hS, rfl, _, rfl, ?_⟩
      exact ⟨_, rfl, _, _, rfl, .inr (T.tup_SINGLE_WORDS _), rfl, rfl, q _ (Same.refl _)⟩
    | day =>
      refine ⟨_, rfl, rfl, _, rfl, ?_⟩
      refine ⟨_, rfl, a, _, rfl, .inr hS, rfl, _, rfl, ?_⟩
      exact ⟨_, rfl, _, _, rfl, .inr (T.tup_SINGLE_WORDS _), rfl, rfl, q _ (Same.refl _)⟩
    | power =>
      refine ⟨_, rfl, rfl, _, rfl, ?_⟩
      refine ⟨_, rfl, a, _, rfl, .inr hS, rfl, _, rfl, ?_⟩
      exact ⟨_, rfl, _, _, rfl, .inr (T.tup_SINGLE_WORDS _), rfl, rfl, q _ (Same.refl _)⟩
theorem c_is_deed (T : Txt K mg) : C8.Cal P w K mg base 3 "is_deed" (sp_is_deed K) [] := by
  obtain ⟨fd, F⟩ := T.f_is_deed
  exact ⟨_, fd, _, _, ok_is_deed T F, T.g_is_deed, F.kp, F.bindsN (fun _ _ _ _ _ _ us hl => match us, hl with | [_], _ => rfl), .nil⟩
def DeedsAt (K : PySem.W.Frag) (H : Hp) (xs : List V) (ds : List Deed) : Prop := Paired (DeedAt K H) xs ds
theorem DeedsAt.same {K : PySem.W.Frag} {H H' : Hp} {xs : List V} {ds : List Deed} (s : Same H H') (h : DeedsAt K H xs ds) : DeedsAt K H' xs ds :=
  paired_map (fun v d _ hd => by
    obtain ⟨a, e, h2⟩ := hd
    exact ⟨a, e, same_tup s h2⟩) h
theorem paired_at {α β : Type} {F : α → β → Prop} : ∀ {l : List α} {m : List β} {i : Nat} {a : α}, Paired F l m → l[i]? = some a → ∃ b, m[i]? = some b ∧ F a b
  | _, _, _, _, .nil, e => by simp at e
  | _, _, 0, _, .cons r _, e => by simp at e; subst e; exact ⟨_, rfl, r⟩
  | _, _, i + 1, _, .cons _ t, e => by
    obtain ⟨a, h1, h2⟩ := paired_at t (by simpa using e)
    exact ⟨a, by simpa using h1, h2⟩
def sp_check_are_deeds (K : PySem.W.Frag) : Sp := fun vs H Q _ => ∃ (a : Addr) (xs : List V) (ds : List Deed), vs = [.ref a] ∧ SqL K H a xs ∧ DeedsAt K H xs ds ∧ (∀ d ∈ ds, d.Ok) ∧ ∀ H', Same H H' → Q .non H'
set_option maxHeartbeats 2000000 in
theorem ok_check_are_deeds (T : Txt K mg) {fd : FuncData} (F : FunD K d_check_are_deeds.name d_check_are_deeds.qual d_check_are_deeds.params d_check_are_deeds.body d_check_are_deeds.scope (d_check_are_deeds.dvs K) (d_check_are_deeds.kws K) (He.fAd K d_check_are_deeds.at_) fd) : FnOk P w K mg base C8.CX0 4 (He.fAd K d_check_are_deeds.at_) fd ["deeds"] (sp_check_are_deeds K) := by
  have c_is_deed := c_is_deed (P := P) (w := w) (base := base) T
  refine F.ok sc_check_are_deeds (fun vs H Q E h => ?_) (fun cdv A outer s H vs Q E hr h => ?_)
  · obtain ⟨a, xs, ds, rfl, _⟩ := h
    rfl
  · have hu := L2.hu_of hr
    obtain ⟨a, xs, ds, rfl, hS, hD, hok, q⟩ := h
    refine ⟨_, (PSs.nox ((pss_cons (ps_if (pt_not (pt_val (pe_callB (My.isiK (K := K) rfl) (by rfl) T.isinstance (by decide +kernel) (pa_cons (pv 0) (pa_cons (pe_bltn (v := .ty "list") (u := .type "list") rfl T.list (by decide +kernel) rfl) pa_nil)))))
  (pss_one ps_never)
  pss_nil)
  (pss_one (ps_for PassesOwn.never rfl (pi_enum (by rfl) T.enumerate (pa_cons (pv 0) pa_nil)) (My.pg_tupK (K := K) (n := 2) rfl rfl (pgs_cons (pg_name (i := 1) sc_check_are_deeds.nd rfl (by first | exact Or.inl rfl | exact Or.inr rfl)) (pgs_cons (pg_name (i := 2) sc_check_are_deeds.nd rfl (by first | exact Or.inl rfl | exact Or.inr rfl)) pgs_nil)))
  (pss_one (ps_if (pt_not (pt_val (C8.pe_c c_is_deed hr (by decide) rfl (pa_cons (pv 2) pa_nil))))
  (pss_one ps_never)
  pss_nil))))))), ?_⟩
    refine ⟨_, rfl, _, _, _, _, _, rfl, .ty "list", tyx_lst hS, L2.kit_ty (by decide +kernel), true, rfl, ?_⟩
    refine ⟨_, rfl, a, xs, rfl, hS, ?_⟩
    refine for_it (walk_enum (xs := xs)) (fun i σ H' => ∃ u v, σ = [some (.ref a), u, v] ∧ Same H H') ⟨_, _, rfl, Same.refl _⟩ (fun i σ H' _ ⟨_, _, _, s⟩ => s.seq hS) ?_ ?_
    · rintro i x σ H2 H3 hi ⟨u, v, rfl, s2⟩ ⟨t, x1, y, rfl, ht, rfl, e1, hy⟩
      cases e1
      obtain ⟨d, hd, hat⟩ := paired_at hD hy
      have s3 := s2.trans (same_new (o := .tup [.int (i : Nat), y]) ht)
      refine ⟨t, _, rfl, SqT.of upd_same, rfl, _, _, rfl, _, _, rfl, rfl, ?_⟩
      obtain ⟨b, rfl, hb⟩ := hat
      refine ⟨_, rfl, _, d, rfl, ⟨b, rfl, same_tup s3 hb⟩, hok d (List.mem_of_getElem? hd), fun H4 s4 => ?_⟩
      exact ⟨true, rfl, _, _, rfl, s3.trans s4⟩
    · rintro σ H2 ⟨u, v, rfl, s2⟩
      exact q _ s2
theorem c_check_are_deeds (T : Txt K mg) : C8.Cal P w K mg base 4 "check_are_deeds" (sp_check_are_deeds K) [] := by
  obtain ⟨fd, F⟩ := T.f_check_are_deeds
  exact ⟨_, fd, _, _, ok_check_are_deeds T F, T.g_check_are_deeds, F.kp, F.bindsN (fun _ _ _ _ _ _ us hl => match us, hl with | [_], _ => rfl), .nil⟩
def sp_check_playable (K : PySem.W.Frag) : Sp := fun vs H Q _ => ∃ (a : Addr) (xs : List V) (ds : List Deed), vs = [.ref a] ∧ SqL K H a xs ∧ DeedsAt K H xs ds ∧ Playable ds ∧ ∀ H', Same H H' → Q .non H'
set_option maxHeartbeats 2000000 in
theorem ok_check_playable (T : Txt K mg) {fd : FuncData} (F : FunD K d_check_playable.name d_check_playable.qual d_check_playable.params d_check_playable.body d_check_playable.scope (d_check_playable.dvs K) (d_check_playable.kws K) (He.fAd K d_check_playable.at_) fd) : FnOk P w K mg base C8.CX0 5 (He.fAd K d_check_playable.at_) fd ["deeds"] (sp_check_playable K) := by
  have c_check_are_deeds := c_check_are_deeds (P := P) (w := w) (base := base) T
  refine F.ok sc_check_playable (fun vs H Q E h => ?_) (fun cdv A outer s H vs Q E hr h => ?_)
  · obtain ⟨a, xs, ds, rfl, _⟩ := h
    rfl
  · have hu := L2.hu_of hr
    obtain ⟨a, xs, ds, rfl, hS, hD, hok, q⟩ := h
    refine ⟨_, (PSs.nox ((pss_cons (ps_expr (C8.pe_c c_check_are_deeds hr (by decide) rfl (pa_cons (pv 0) pa_nil)))
  (pss_cons (ps_set (i := 1) sc_check_playable.nd rfl (by first | exact Or.inl rfl | exact Or.inr rfl) pe_int)
  (pss_one (ps_for PassesOwn.never rfl (pi_enum (by rfl) T.enumerate (pa_cons (pv 0) pa_nil)) (My.pg_tupK (K := K) (n := 2) rfl rfl (pgs_cons (pg_name (i := 2) sc_check_playable.nd rfl (by first | exact Or.inl rfl | exact Or.inr rfl)) (pgs_cons (pg_name (i := 3) sc_check_playable.nd rfl (by first | exact Or.inl rfl | exact Or.inr rfl)) pgs_nil)))
  (pss_one (ps_if (pt_cmpR op_eq (pe_ix (My.ix_tupK (K := K) rfl) (pv 3) pe_int (fun _ _ => rfl)) pe_str (nomark _))
  (pss_one (ps_aug (i := 1) sc_check_playable.nd rfl (by first | exact Or.inl rfl | exact Or.inr rfl) pe_int ip_add))
  (pss_one (ps_if (PW.pt (pw_and (pt_cmpR op_eq (pe_ix (My.ix_tupK (K := K) rfl) (pv 3) pe_int (fun _ _ => rfl)) pe_str (nomark _)) (pw_and1 (pt_cmpR op_gt (pe_ix (My.ix_tupK (K := K) rfl) (pv 3) pe_int (fun _ _ => rfl)) (pv 1) (nomark _)))))
  (pss_one ps_never)
  pss_nil)))))))))), ?_⟩
    refine ⟨_, rfl, a, xs, ds, rfl, hS, hD, hok.ok, fun H1 s1 => ?_⟩
    refine ⟨_, rfl, a, xs, rfl, s1.seq hS, ?_⟩
    refine for_it (walk_enum (xs := xs)) (fun i σ H' => ∃ u v, σ = [some (.ref a), some (.int (brs (ds.take i) : Nat)), u, v] ∧ Same H H') ⟨_, _, rfl, s1⟩ (fun i σ H' _ ⟨_, _, _, s⟩ => s.seq hS) ?_ ?_
    · rintro i x σ H2 H3 hi ⟨u, v, rfl, s2⟩ ⟨t, x1, y, rfl, ht, rfl, e1, hy⟩
      cases e1
      obtain ⟨d, hd, hat⟩ := paired_at hD hy
      have s3 := s2.trans (same_new (o := .tup [.int (i : Nat), y]) ht)
      refine ⟨t, _, rfl, SqT.of upd_same, rfl, _, _, rfl, _, _, rfl, rfl, ?_⟩
      obtain ⟨b, rfl, hb⟩ := hat
      have hb3 := same_tup s3 hb
      have w0 : atI d.vs 0 = some (.str d.w) := by cases d <;> rfl
      refine ⟨_, rfl, b, _, _, _, rfl, rfl, hb3, w0, rfl, _, rfl, ?_⟩
      have more := brs_more hd
      cases d with
      | bring l s =>
        refine ⟨_, rfl, _, _, rfl, rfl, some (.int (i : Nat)), some (.ref b), ?_, s3⟩
        rw [more]
        rfl
      | code p t1 s =>
        refine ⟨_, rfl, b, _, _, _, rfl, rfl, hb3, w0, rfl, _, rfl, ?_⟩
        refine ⟨_, rfl, b, _, 1, _, rfl, rfl, hb3, rfl, _, rfl, _, _, rfl, rfl, _, rfl, ?_⟩
        have hle := (hok.2 i p t1 s hd).2
        rw [show decide (((brs (ds.take i) : Nat) : Int) < p) = false from decide_eq_false (by omega)]
        refine ⟨some (.int (i : Nat)), some (.ref b), ?_, s3⟩
        rw [more]
        rfl
      | pass =>
        refine ⟨_, rfl, b, _, _, _, rfl, rfl, hb3, w0, rfl, _, rfl, ?_⟩
        exact ⟨some (.int (i : Nat)), some (.ref b), by rw [more] <;> rfl, s3⟩
      | day =>
        refine ⟨_, rfl, b, _, _, _, rfl, rfl, hb3, w0, rfl, _, rfl, ?_⟩
        exact ⟨some (.int (i : Nat)), some (.ref b), by rw [more] <;> rfl, s3⟩
      | power =>
        refine ⟨_, rfl, b, _, _, _, rfl, rfl, hb3, w0, rfl, _, rfl, ?_⟩
        exact ⟨some (.int (i : Nat)), some (.ref b), by rw [more] <;> rfl, s3⟩
    · rintro σ H2 ⟨u, v, rfl, s2⟩
      exact q _ s2
theorem c_check_playable (T : Txt K mg) : C8.Cal P w K mg base 5 "check_playable" (sp_check_playable K) [] := by
  obtain ⟨fd, F⟩ := T.f_check_playable
  exact ⟨_, fd, _, _, ok_check_playable T F, T.g_check_playable, F.kp, F.bindsN (fun _ _ _ _ _ _ us hl => match us, hl with | [_], _ => rfl), .nil⟩
end
end K32

namespace K32
open PySem PySem.Spec PyProof.Rows L2 My
/-! ### the box: what it is, what a deed does to it -/
structure BoxS where
  ajar : Bool
  inside : List Int
  tf : Str
  valid : List Int
  age : Option Int
  last : Option Int
  sent : List Int
  served : List Int
structure ToldS where
  letters : List Int
  opened : Bool
  got : List Int
  wrongs : List Str
  moments : List Str
def oV : Option Int → V
  | none => .non
  | some i => .int i
def kvT (l : List Int) : List (Key × V) := l.map fun i => (Sum.inl i, V.bl true)
def bxf (S : BoxS) (li dv ds dr : Addr) : List (Str × V) :=
  [("ajar", .bl S.ajar), ("inside", .ref li), ("taken_for", .str S.tf), ("valid", .ref dv), ("age", oV S.age), ("last", oV S.last), ("sent", .ref ds), ("served", .ref dr)]
def tdf (T : ToldS) (yb : Bool) (ll lg lw lm : Addr) : List (Str × V) := [("letters", .ref ll), ("opened", .bl T.opened), ("got", .ref lg), ("lays", .bl yb), ("wrongs", .ref lw), ("moments", .ref lm)]
theorem nd_ne {α : Type} {l : List α} {a b : α} (h : l.Nodup) {i j : Nat} (hi : l[i]? = some a) (hj : l[j]? = some b) (ne : i ≠ j) : a ≠ b := by
  intro e
  subst e
  exact ne (L2.nd_ix h hi hj)
theorem nd_put {α : Type} {l : List α} {p : α} {i : Nat} (h : l.Nodup) (hp : p ∉ l) : (l.set i p).Nodup := by
  induction l generalizing i with
  | nil => simp
  | cons a r ih =>
    rw [List.nodup_cons] at h
    simp only [List.mem_cons, not_or] at hp
    cases i with
    | zero =>
      rw [List.set_cons_zero, List.nodup_cons]
      exact ⟨hp.2, h.2⟩
    | succ i =>
      rw [List.set_cons_succ, List.nodup_cons]
      refine ⟨fun hm => ?_, ih h.2 hp.2⟩
      rcases List.mem_or_eq_of_mem_set hm with z | z
      · exact h.1 z
      · exact hp.1 z.symm
structure BT (K : PySem.W.Frag) (H0 H : Hp) (b dx li dv ds dr : Addr) (S : BoxS) (t dt : Addr) (yb : Bool) (ll lg lw lm : Addr) (T : ToldS) : Prop where
  same : Same H0 H
  nd : [b, li, dv, ds, dr, t, ll, lg, lw, lm].Nodup
  new : ∀ a ∈ [b, li, dv, ds, dr, t, ll, lg, lw, lm], H0 a = none
  hb : H b = some (.ins (He.ga K "Box") dx (bxf S li dv ds dr))
  hli : H li = some (.lst (S.inside.map V.int))
  hdv : H dv = some (.dK (kvT S.valid))
  hds : H ds = some (.dK (kvT S.sent))
  hdr : H dr = some (.dK (kvT S.served))
  ht : H t = some (.ins (He.ga K "Told") dt (tdf T yb ll lg lw lm))
  hll : H ll = some (.lst (T.letters.map V.int))
  hlg : H lg = some (.lst (T.got.map V.int))
  hlw : H lw = some (.lst (T.wrongs.map V.str))
  hlm : H lm = some (.lst (T.moments.map V.str))
section
variable {K : PySem.W.Frag} {H0 H : Hp} {b dx li dv ds dr : Addr} {S S' : BoxS} {t dt : Addr} {yb : Bool} {ll lg lw lm : Addr} {T T' : ToldS}
theorem BT.set_b (h : BT K H0 H b dx li dv ds dr S t dt yb ll lg lw lm T) (e1 : S'.inside = S.inside) (e2 : S'.valid = S.valid) (e3 : S'.sent = S.sent) (e4 : S'.served = S.served) : BT K H0 (upd H b (.ins (He.ga K "Box") dx (bxf S' li dv ds dr))) b dx li dv ds dr S' t dt yb ll lg lw lm T where
  same := same_upd h.same (h.new b (by simp))
  nd := h.nd
  new := h.new
  hb := upd_same
  hli := by rw [upd_ne (nd_ne h.nd (i := 1) (j := 0) rfl rfl (by decide)), e1]; exact h.hli
  hdv := by rw [upd_ne (nd_ne h.nd (i := 2) (j := 0) rfl rfl (by decide)), e2]; exact h.hdv
  hds := by rw [upd_ne (nd_ne h.nd (i := 3) (j := 0) rfl rfl (by decide)), e3]; exact h.hds
  hdr := by rw [upd_ne (nd_ne h.nd (i := 4) (j := 0) rfl rfl (by decide)), e4]; exact h.hdr
  ht := by rw [upd_ne (nd_ne h.nd (i := 5) (j := 0) rfl rfl (by decide))]; exact h.ht
  hll := by rw [upd_ne (nd_ne h.nd (i := 6) (j := 0) rfl rfl (by decide))]; exact h.hll
  hlg := by rw [upd_ne (nd_ne h.nd (i := 7) (j := 0) rfl rfl (by decide))]; exact h.hlg
  hlw := by rw [upd_ne (nd_ne h.nd (i := 8) (j := 0) rfl rfl (by decide))]; exact h.hlw
  hlm := by rw [upd_ne (nd_ne h.nd (i := 9) (j := 0) rfl rfl (by decide))]; exact h.hlm
theorem BT.set_li (h : BT K H0 H b dx li dv ds dr S t dt yb ll lg lw lm T) (e : S' = { S with inside := S'.inside }) : BT K H0 (upd H li (.lst (S'.inside.map V.int))) b dx li dv ds dr S' t dt yb ll lg lw lm T where
  same := same_upd h.same (h.new li (by simp))
  nd := h.nd
  new := h.new
  hb := by rw [upd_ne (nd_ne h.nd (i := 0) (j := 1) rfl rfl (by decide)), e]; exact h.hb
  hli := upd_same
  hdv := by rw [upd_ne (nd_ne h.nd (i := 2) (j := 1) rfl rfl (by decide)), e]; exact h.hdv
  hds := by rw [upd_ne (nd_ne h.nd (i := 3) (j := 1) rfl rfl (by decide)), e]; exact h.hds
  hdr := by rw [upd_ne (nd_ne h.nd (i := 4) (j := 1) rfl rfl (by decide)), e]; exact h.hdr
  ht := by rw [upd_ne (nd_ne h.nd (i := 5) (j := 1) rfl rfl (by decide))]; exact h.ht
  hll := by rw [upd_ne (nd_ne h.nd (i := 6) (j := 1) rfl rfl (by decide))]; exact h.hll
  hlg := by rw [upd_ne (nd_ne h.nd (i := 7) (j := 1) rfl rfl (by decide))]; exact h.hlg
  hlw := by rw [upd_ne (nd_ne h.nd (i := 8) (j := 1) rfl rfl (by decide))]; exact h.hlw
  hlm := by rw [upd_ne (nd_ne h.nd (i := 9) (j := 1) rfl rfl (by decide))]; exact h.hlm
theorem BT.set_dv (h : BT K H0 H b dx li dv ds dr S t dt yb ll lg lw lm T) (e : S' = { S with valid := S'.valid }) : BT K H0 (upd H dv (.dK (kvT S'.valid))) b dx li dv ds dr S' t dt yb ll lg lw lm T where
  same := same_upd h.same (h.new dv (by simp))
  nd := h.nd
  new := h.new
  hb := by rw [upd_ne (nd_ne h.nd (i := 0) (j := 2) rfl rfl (by decide)), e]; exact h.hb
  hli := by rw [upd_ne (nd_ne h.nd (i := 1) (j := 2) rfl rfl (by decide)), e]; exact h.hli
  hdv := upd_same
  hds := by rw [upd_ne (nd_ne h.nd (i := 3) (j := 2) rfl rfl (by decide)), e]; exact h.hds
  hdr := by rw [upd_ne (nd_ne h.nd (i := 4) (j := 2) rfl rfl (by decide)), e]; exact h.hdr
  ht := by rw [upd_ne (nd_ne h.nd (i := 5) (j := 2) rfl rfl (by decide))]; exact h.ht
  hll := by rw [upd_ne (nd_ne h.nd (i := 6) (j := 2) rfl rfl (by decide))]; exact h.hll
  hlg := by rw [upd_ne (nd_ne h.nd (i := 7) (j := 2) rfl rfl (by decide))]; exact h.hlg
  hlw := by rw [upd_ne (nd_ne h.nd (i := 8) (j := 2) rfl rfl (by decide))]; exact h.hlw
  hlm := by rw [upd_ne (nd_ne h.nd (i := 9) (j := 2) rfl rfl (by decide))]; exact h.hlm
theorem BT.set_ds (h : BT K H0 H b dx li dv ds dr S t dt yb ll lg lw lm T) (e : S' = { S with sent := S'.sent }) : BT K H0 (upd H ds (.dK (kvT S'.sent))) b dx li dv ds dr S' t dt yb ll lg lw lm T where
  same := same_upd h.same (h.new ds (by simp))
  nd := h.nd
  new := h.new
  hb := by rw [upd_ne (nd_ne h.nd (i := 0) (j := 3) rfl rfl (by decide)), e]; exact h.hb
  hli := by rw [upd_ne (nd_ne h.nd (i := 1) (j := 3) rfl rfl (by decide)), e]; exact h.hli
  hdv := by rw [upd_ne (nd_ne h.nd (i := 2) (j := 3) rfl rfl (by decide)), e]; exact h.hdv
  hds := upd_same
  hdr := by rw [upd_ne (nd_ne h.nd (i := 4) (j := 3) rfl rfl (by decide)), e]; exact h.hdr
  ht := by rw [upd_ne (nd_ne h.nd (i := 5) (j := 3) rfl rfl (by decide))]; exact h.ht
  hll := by rw [upd_ne (nd_ne h.nd (i := 6) (j := 3) rfl rfl (by decide))]; exact h.hll
  hlg := by rw [upd_ne (nd_ne h.nd (i := 7) (j := 3) rfl rfl (by decide))]; exact h.hlg
  hlw := by rw [upd_ne (nd_ne h.nd (i := 8) (j := 3) rfl rfl (by decide))]; exact h.hlw
  hlm := by rw [upd_ne (nd_ne h.nd (i := 9) (j := 3) rfl rfl (by decide))]; exact h.hlm
theorem BT.set_dr (h : BT K H0 H b dx li dv ds dr S t dt yb ll lg lw lm T) (e : S' = { S with served := S'.served }) : BT K H0 (upd H dr (.dK (kvT S'.served))) b dx li dv ds dr S' t dt yb ll lg lw lm T where
  same := same_upd h.same (h.new dr (by simp))
  nd := h.nd
  new := h.new
  hb := by rw [upd_ne (nd_ne h.nd (i := 0) (j := 4) rfl rfl (by decide)), e]; exact h.hb
  hli := by rw [upd_ne (nd_ne h.nd (i := 1) (j := 4) rfl rfl (by decide)), e]; exact h.hli
  hdv := by rw [upd_ne (nd_ne h.nd (i := 2) (j := 4) rfl rfl (by decide)), e]; exact h.hdv
  hds := by rw [upd_ne (nd_ne h.nd (i := 3) (j := 4) rfl rfl (by decide)), e]; exact h.hds
  hdr := upd_same
  ht := by rw [upd_ne (nd_ne h.nd (i := 5) (j := 4) rfl rfl (by decide))]; exact h.ht
  hll := by rw [upd_ne (nd_ne h.nd (i := 6) (j := 4) rfl rfl (by decide))]; exact h.hll
  hlg := by rw [upd_ne (nd_ne h.nd (i := 7) (j := 4) rfl rfl (by decide))]; exact h.hlg
  hlw := by rw [upd_ne (nd_ne h.nd (i := 8) (j := 4) rfl rfl (by decide))]; exact h.hlw
  hlm := by rw [upd_ne (nd_ne h.nd (i := 9) (j := 4) rfl rfl (by decide))]; exact h.hlm
theorem BT.set_t (h : BT K H0 H b dx li dv ds dr S t dt yb ll lg lw lm T) (e1 : T'.letters = T.letters) (e2 : T'.got = T.got) (e3 : T'.wrongs = T.wrongs) (e4 : T'.moments = T.moments) : BT K H0 (upd H t (.ins (He.ga K "Told") dt (tdf T' yb ll lg lw lm))) b dx li dv ds dr S t dt yb ll lg lw lm T' where
  same := same_upd h.same (h.new t (by simp))
  nd := h.nd
  new := h.new
  hb := by rw [upd_ne (nd_ne h.nd (i := 0) (j := 5) rfl rfl (by decide))]; exact h.hb
  hli := by rw [upd_ne (nd_ne h.nd (i := 1) (j := 5) rfl rfl (by decide))]; exact h.hli
  hdv := by rw [upd_ne (nd_ne h.nd (i := 2) (j := 5) rfl rfl (by decide))]; exact h.hdv
  hds := by rw [upd_ne (nd_ne h.nd (i := 3) (j := 5) rfl rfl (by decide))]; exact h.hds
  hdr := by rw [upd_ne (nd_ne h.nd (i := 4) (j := 5) rfl rfl (by decide))]; exact h.hdr
  ht := upd_same
  hll := by rw [upd_ne (nd_ne h.nd (i := 6) (j := 5) rfl rfl (by decide)), e1]; exact h.hll
  hlg := by rw [upd_ne (nd_ne h.nd (i := 7) (j := 5) rfl rfl (by decide)), e2]; exact h.hlg
  hlw := by rw [upd_ne (nd_ne h.nd (i := 8) (j := 5) rfl rfl (by decide)), e3]; exact h.hlw
  hlm := by rw [upd_ne (nd_ne h.nd (i := 9) (j := 5) rfl rfl (by decide)), e4]; exact h.hlm
theorem BT.set_y (h : BT K H0 H b dx li dv ds dr S t dt yb ll lg lw lm T) (y2 : Bool) : BT K H0 (upd H t (.ins (He.ga K "Told") dt (tdf T y2 ll lg lw lm))) b dx li dv ds dr S t dt y2 ll lg lw lm T where
  same := same_upd h.same (h.new t (by simp))
  nd := h.nd
  new := h.new
  hb := by rw [upd_ne (nd_ne h.nd (i := 0) (j := 5) rfl rfl (by decide))]; exact h.hb
  hli := by rw [upd_ne (nd_ne h.nd (i := 1) (j := 5) rfl rfl (by decide))]; exact h.hli
  hdv := by rw [upd_ne (nd_ne h.nd (i := 2) (j := 5) rfl rfl (by decide))]; exact h.hdv
  hds := by rw [upd_ne (nd_ne h.nd (i := 3) (j := 5) rfl rfl (by decide))]; exact h.hds
  hdr := by rw [upd_ne (nd_ne h.nd (i := 4) (j := 5) rfl rfl (by decide))]; exact h.hdr
  ht := upd_same
  hll := by rw [upd_ne (nd_ne h.nd (i := 6) (j := 5) rfl rfl (by decide))]; exact h.hll
  hlg := by rw [upd_ne (nd_ne h.nd (i := 7) (j := 5) rfl rfl (by decide))]; exact h.hlg
  hlw := by rw [upd_ne (nd_ne h.nd (i := 8) (j := 5) rfl rfl (by decide))]; exact h.hlw
  hlm := by rw [upd_ne (nd_ne h.nd (i := 9) (j := 5) rfl rfl (by decide))]; exact h.hlm
theorem BT.set_ll (h : BT K H0 H b dx li dv ds dr S t dt yb ll lg lw lm T) (e : T' = { T with letters := T'.letters }) : BT K H0 (upd H ll (.lst (T'.letters.map V.int))) b dx li dv ds dr S t dt yb ll lg lw lm T' where
  same := same_upd h.same (h.new ll (by simp))
  nd := h.nd
  new := h.new
  hb := by rw [upd_ne (nd_ne h.nd (i := 0) (j := 6) rfl rfl (by decide))]; exact h.hb
  hli := by rw [upd_ne (nd_ne h.nd (i := 1) (j := 6) rfl rfl (by decide))]; exact h.hli
  hdv := by rw [upd_ne (nd_ne h.nd (i := 2) (j := 6) rfl rfl (by decide))]; exact h.hdv
  hds := by rw [upd_ne (nd_ne h.nd (i := 3) (j := 6) rfl rfl (by decide))]; exact h.hds
  hdr := by rw [upd_ne (nd_ne h.nd (i := 4) (j := 6) rfl rfl (by decide))]; exact h.hdr
  ht := by rw [upd_ne (nd_ne h.nd (i := 5) (j := 6) rfl rfl (by decide)), e]; exact h.ht
  hll := upd_same
  hlg := by rw [upd_ne (nd_ne h.nd (i := 7) (j := 6) rfl rfl (by decide)), e]; exact h.hlg
  hlw := by rw [upd_ne (nd_ne h.nd (i := 8) (j := 6) rfl rfl (by decide)), e]; exact h.hlw
  hlm := by rw [upd_ne (nd_ne h.nd (i := 9) (j := 6) rfl rfl (by decide)), e]; exact h.hlm
theorem BT.set_lg (h : BT K H0 H b dx li dv ds dr S t dt yb ll lg lw lm T) (e : T' = { T with got := T'.got }) : BT K H0 (upd H lg (.lst (T'.got.map V.int))) b dx li dv ds dr S t dt yb ll lg lw lm T' where
  same := same_upd h.same (h.new lg (by simp))
  nd := h.nd
  new := h.new
  hb := by rw [upd_ne (nd_ne h.nd (i := 0) (j := 7) rfl rfl (by decide))]; exact h.hb
  hli := by rw [upd_ne (nd_ne h.nd (i := 1) (j := 7) rfl rfl (by decide))]; exact h.hli
  hdv := by rw [upd_ne (nd_ne h.nd (i := 2) (j := 7) rfl rfl (by decide))]; exact h.hdv
  hds := by rw [upd_ne (nd_ne h.nd (i := 3) (j := 7) rfl rfl (by decide))]; exact h.hds
  hdr := by rw [upd_ne (nd_ne h.nd (i := 4) (j := 7) rfl rfl (by decide))]; exact h.hdr
  ht := by rw [upd_ne (nd_ne h.nd (i := 5) (j := 7) rfl rfl (by decide)), e]; exact h.ht
  hll := by rw [upd_ne (nd_ne h.nd (i := 6) (j := 7) rfl rfl (by decide)), e]; exact h.hll
  hlg := upd_same
  hlw := by rw [upd_ne (nd_ne h.nd (i := 8) (j := 7) rfl rfl (by decide)), e]; exact h.hlw
  hlm := by rw [upd_ne (nd_ne h.nd (i := 9) (j := 7) rfl rfl (by decide)), e]; exact h.hlm
theorem BT.set_lw (h : BT K H0 H b dx li dv ds dr S t dt yb ll lg lw lm T) (e : T' = { T with wrongs := T'.wrongs }) : BT K H0 (upd H lw (.lst (T'.wrongs.map V.str))) b dx li dv ds dr S t dt yb ll lg lw lm T' where
  same := same_upd h.same (h.new lw (by simp))
  nd := h.nd
  new := h.new
  hb := by rw [upd_ne (nd_ne h.nd (i := 0) (j := 8) rfl rfl (by decide))]; exact h.hb
  hli := by rw [upd_ne (nd_ne h.nd (i := 1) (j := 8) rfl rfl (by decide))]; exact h.hli
  hdv := by rw [upd_ne (nd_ne h.nd (i := 2) (j := 8) rfl rfl (by decide))]; exact h.hdv
  hds := by rw [upd_ne (nd_ne h.nd (i := 3) (j := 8) rfl rfl (by decide))]; exact h.hds
  hdr := by rw [upd_ne (nd_ne h.nd (i := 4) (j := 8) rfl rfl (by decide))]; exact h.hdr
  ht := by rw [upd_ne (nd_ne h.nd (i := 5) (j := 8) rfl rfl (by decide)), e]; exact h.ht
  hll := by rw [upd_ne (nd_ne h.nd (i := 6) (j := 8) rfl rfl (by decide)), e]; exact h.hll
  hlg := by rw [upd_ne (nd_ne h.nd (i := 7) (j := 8) rfl rfl (by decide)), e]; exact h.hlg
  hlw := upd_same
  hlm := by rw [upd_ne (nd_ne h.nd (i := 9) (j := 8) rfl rfl (by decide)), e]; exact h.hlm
theorem BT.set_lm (h : BT K H0 H b dx li dv ds dr S t dt yb ll lg lw lm T) (e : T' = { T with moments := T'.moments }) : BT K H0 (upd H lm (.lst (T'.moments.map V.str))) b dx li dv ds dr S t dt yb ll lg lw lm T' where
  same := same_upd h.same (h.new lm (by simp))
  nd := h.nd
  new := h.new
  hb := by rw [upd_ne (nd_ne h.nd (i := 0) (j := 9) rfl rfl (by decide))]; exact h.hb
  hli := by rw [upd_ne (nd_ne h.nd (i := 1) (j := 9) rfl rfl (by decide))]; exact h.hli
  hdv := by rw [upd_ne (nd_ne h.nd (i := 2) (j := 9) rfl rfl (by decide))]; exact h.hdv
  hds := by rw [upd_ne (nd_ne h.nd (i := 3) (j := 9) rfl rfl (by decide))]; exact h.hds
  hdr := by rw [upd_ne (nd_ne h.nd (i := 4) (j := 9) rfl rfl (by decide))]; exact h.hdr
  ht := by rw [upd_ne (nd_ne h.nd (i := 5) (j := 9) rfl rfl (by decide)), e]; exact h.ht
  hll := by rw [upd_ne (nd_ne h.nd (i := 6) (j := 9) rfl rfl (by decide)), e]; exact h.hll
  hlg := by rw [upd_ne (nd_ne h.nd (i := 7) (j := 9) rfl rfl (by decide)), e]; exact h.hlg
  hlw := by rw [upd_ne (nd_ne h.nd (i := 8) (j := 9) rfl rfl (by decide)), e]; exact h.hlw
  hlm := upd_same
theorem BT.new_dv (h : BT K H0 H b dx li dv ds dr S t dt yb ll lg lw lm T) {p : Addr} (hp : H p = none) : BT K H0 (upd (upd H p (.dK [])) b (.ins (He.ga K "Box") dx (bxf { S with valid := [] } li p ds dr))) b dx li p ds dr { S with valid := [] } t dt yb ll lg lw lm T := by
  have hn : p ∉ [b, li, dv, ds, dr, t, ll, lg, lw, lm] := by
    intro z
    simp only [List.mem_cons, List.not_mem_nil, or_false] at z
    rcases z with rfl | rfl | rfl | rfl | rfl | rfl | rfl | rfl | rfl | rfl
    · exact absurd (h.hb.symm.trans hp) (by intro q; cases q)
    · exact absurd (h.hli.symm.trans hp) (by intro q; cases q)
    · exact absurd (h.hdv.symm.trans hp) (by intro q; cases q)
    · exact absurd (h.hds.symm.trans hp) (by intro q; cases q)
    · exact absurd (h.hdr.symm.trans hp) (by intro q; cases q)
    · exact absurd (h.ht.symm.trans hp) (by intro q; cases q)
    · exact absurd (h.hll.symm.trans hp) (by intro q; cases q)
    · exact absurd (h.hlg.symm.trans hp) (by intro q; cases q)
    · exact absurd (h.hlw.symm.trans hp) (by intro q; cases q)
    · exact absurd (h.hlm.symm.trans hp) (by intro q; cases q)
  have nd2 : [b, li, p, ds, dr, t, ll, lg, lw, lm].Nodup := nd_put (i := 2) h.nd hn
  have hpb : p ≠ b := fun z => hn (by rw [z]; simp)
  exact {
    same := same_upd (same_upd h.same (h.same.free hp)) (h.new b (by simp))
    nd := nd2
    new := fun a ha => by
      simp only [List.mem_cons, List.not_mem_nil, or_false] at ha
      rcases ha with rfl | rfl | rfl | rfl | rfl | rfl | rfl | rfl | rfl | rfl
      · exact h.new _ (by simp)
      · exact h.new _ (by simp)
      · exact h.same.free hp
      · exact h.new _ (by simp)
      · exact h.new _ (by simp)
      · exact h.new _ (by simp)
      · exact h.new _ (by simp)
      · exact h.new _ (by simp)
      · exact h.new _ (by simp)
      · exact h.new _ (by simp)
    hb := upd_same
    hli := by rw [upd_ne (nd_ne h.nd (i := 1) (j := 0) rfl rfl (by decide)), upd_ne (fun z => hn (by rw [← z]; simp))]; exact h.hli
    hdv := by rw [upd_ne hpb]; exact upd_same
    hds := by rw [upd_ne (nd_ne h.nd (i := 3) (j := 0) rfl rfl (by decide)), upd_ne (fun z => hn (by rw [← z]; simp))]; exact h.hds
    hdr := by rw [upd_ne (nd_ne h.nd (i := 4) (j := 0) rfl rfl (by decide)), upd_ne (fun z => hn (by rw [← z]; simp))]; exact h.hdr
    ht := by rw [upd_ne (nd_ne h.nd (i := 5) (j := 0) rfl rfl (by decide)), upd_ne (fun z => hn (by rw [← z]; simp))]; exact h.ht
    hll := by rw [upd_ne (nd_ne h.nd (i := 6) (j := 0) rfl rfl (by decide)), upd_ne (fun z => hn (by rw [← z]; simp))]; exact h.hll
    hlg := by rw [upd_ne (nd_ne h.nd (i := 7) (j := 0) rfl rfl (by decide)), upd_ne (fun z => hn (by rw [← z]; simp))]; exact h.hlg
    hlw := by rw [upd_ne (nd_ne h.nd (i := 8) (j := 0) rfl rfl (by decide)), upd_ne (fun z => hn (by rw [← z]; simp))]; exact h.hlw
    hlm := by rw [upd_ne (nd_ne h.nd (i := 9) (j := 0) rfl rfl (by decide)), upd_ne (fun z => hn (by rw [← z]; simp))]; exact h.hlm
  }
theorem BT.hand (h : BT K H0 H b dx li dv ds dr S t dt yb ll lg lw lm T) {p : Addr} (hp : H p = none) : BT K H0 (upd (upd (upd H t (.ins (He.ga K "Told") dt (tdf T yb ll li lw lm))) p (.lst [])) b (.ins (He.ga K "Box") dx (bxf S p dv ds dr))) b dx p dv ds dr { S with inside := [] } t dt yb ll li lw lm { T with got := S.inside } := by
  have hn : p ∉ [b, li, dv, ds, dr, t, ll, lg, lw, lm] := by
    intro z
    simp only [List.mem_cons, List.not_mem_nil, or_false] at z
    rcases z with rfl | rfl | rfl | rfl | rfl | rfl | rfl | rfl | rfl | rfl
    · exact absurd (h.hb.symm.trans hp) (by intro q; cases q)
    · exact absurd (h.hli.symm.trans hp) (by intro q; cases q)
    · exact absurd (h.hdv.symm.trans hp) (by intro q; cases q)
    · exact absurd (h.hds.symm.trans hp) (by intro q; cases q)
    · exact absurd (h.hdr.symm.trans hp) (by intro q; cases q)
    · exact absurd (h.ht.symm.trans hp) (by intro q; cases q)
    · exact absurd (h.hll.symm.trans hp) (by intro q; cases q)
    · exact absurd (h.hlg.symm.trans hp) (by intro q; cases q)
    · exact absurd (h.hlw.symm.trans hp) (by intro q; cases q)
    · exact absurd (h.hlm.symm.trans hp) (by intro q; cases q)
  have nd1 : [b, p, dv, ds, dr, t, ll, lg, lw, lm].Nodup := nd_put (i := 1) h.nd hn
  have nd2 : [b, p, dv, ds, dr, t, ll, li, lw, lm].Nodup := nd_put (i := 7) nd1 (fun z => by
    simp only [List.mem_cons, List.not_mem_nil, or_false] at z
    rcases z with z | z | z | z | z | z | z | z | z | z
    · exact (nd_ne h.nd (i := 1) (j := 0) rfl rfl (by decide)) z
    · exact hn (by rw [← z]; simp)
    · exact (nd_ne h.nd (i := 1) (j := 2) rfl rfl (by decide)) z
    · exact (nd_ne h.nd (i := 1) (j := 3) rfl rfl (by decide)) z
    · exact (nd_ne h.nd (i := 1) (j := 4) rfl rfl (by decide)) z
    · exact (nd_ne h.nd (i := 1) (j := 5) rfl rfl (by decide)) z
    · exact (nd_ne h.nd (i := 1) (j := 6) rfl rfl (by decide)) z
    · exact (nd_ne h.nd (i := 1) (j := 7) rfl rfl (by decide)) z
    · exact (nd_ne h.nd (i := 1) (j := 8) rfl rfl (by decide)) z
    · exact (nd_ne h.nd (i := 1) (j := 9) rfl rfl (by decide)) z)
  have hpb : p ≠ b := fun z => hn (by rw [z]; simp)
  exact {
    same := same_upd (same_upd (same_upd h.same (h.new t (by simp))) (h.same.free hp)) (h.new b (by simp))
    nd := nd2
    new := fun a ha => by
      simp only [List.mem_cons, List.not_mem_nil, or_false] at ha
      rcases ha with rfl | rfl | rfl | rfl | rfl | rfl | rfl | rfl | rfl | rfl
      · exact h.new _ (by simp)
      · exact h.same.free hp
      · exact h.new _ (by simp)
      · exact h.new _ (by simp)
      · exact h.new _ (by simp)
      · exact h.new _ (by simp)
      · exact h.new _ (by simp)
      · exact h.new _ (by simp)
      · exact h.new _ (by simp)
      · exact h.new _ (by simp)
    hb := upd_same
    hli := by rw [upd_ne hpb]; exact upd_same
    hdv := by rw [upd_ne (nd_ne h.nd (i := 2) (j := 0) rfl rfl (by decide)), upd_ne (fun z => hn (by rw [← z]; simp)), upd_ne (nd_ne h.nd (i := 2) (j := 5) rfl rfl (by decide))]; exact h.hdv
    hds := by rw [upd_ne (nd_ne h.nd (i := 3) (j := 0) rfl rfl (by decide)), upd_ne (fun z => hn (by rw [← z]; simp)), upd_ne (nd_ne h.nd (i := 3) (j := 5) rfl rfl (by decide))]; exact h.hds
    hdr := by rw [upd_ne (nd_ne h.nd (i := 4) (j := 0) rfl rfl (by decide)), upd_ne (fun z => hn (by rw [← z]; simp)), upd_ne (nd_ne h.nd (i := 4) (j := 5) rfl rfl (by decide))]; exact h.hdr
    hll := by rw [upd_ne (nd_ne h.nd (i := 6) (j := 0) rfl rfl (by decide)), upd_ne (fun z => hn (by rw [← z]; simp)), upd_ne (nd_ne h.nd (i := 6) (j := 5) rfl rfl (by decide))]; exact h.hll
    hlw := by rw [upd_ne (nd_ne h.nd (i := 8) (j := 0) rfl rfl (by decide)), upd_ne (fun z => hn (by rw [← z]; simp)), upd_ne (nd_ne h.nd (i := 8) (j := 5) rfl rfl (by decide))]; exact h.hlw
    hlm := by rw [upd_ne (nd_ne h.nd (i := 9) (j := 0) rfl rfl (by decide)), upd_ne (fun z => hn (by rw [← z]; simp)), upd_ne (nd_ne h.nd (i := 9) (j := 5) rfl rfl (by decide))]; exact h.hlm
    hlg := by rw [upd_ne (nd_ne h.nd (i := 1) (j := 0) rfl rfl (by decide)), upd_ne (fun z => hn (by rw [← z]; simp)), upd_ne (nd_ne h.nd (i := 1) (j := 5) rfl rfl (by decide))]; exact h.hli
    ht := by rw [upd_ne (nd_ne h.nd (i := 5) (j := 0) rfl rfl (by decide)), upd_ne (fun z => hn (by rw [← z]; simp))]; exact upd_same
  }
end
end K32

namespace K32
open PySem PySem.Spec PyProof.Rows L2 My
/-! ### what the box does, as a function -/
def ins (p : Int) (l : List Int) : List Int := if p ∈ l then l else l ++ [p]
theorem ins_len (p : Int) (l : List Int) : (ins p l).length ≤ l.length + 1 := by
  unfold ins
  split
  · omega
  · simp
theorem kvT_any (l : List Int) (p : Int) : ((kvT l).any fun kv => decide (kv.1 = (Sum.inl p : Key))) = decide (p ∈ l) := by
  induction l with
  | nil => rfl
  | cons a l ih =>
    show (decide ((Sum.inl a : Key) = Sum.inl p) || ((kvT l).any fun kv => decide (kv.1 = (Sum.inl p : Key)))) = _
    rw [ih, key_ll]
    by_cases e : a = p
    · subst e; simp
    · have e2 : ¬ p = a := fun z => e z.symm
      simp [e, e2]
theorem valV_kvT (l : List Int) (p : Int) : (valV (kvT l) (Sum.inl p)).isSome = decide (p ∈ l) := by
  rw [← valV_any, kvT_any]
theorem kvT_len (l : List Int) : (kvT l).length = l.length := by simp [kvT]
theorem putK_kvT (l : List Int) (p : Int) : putK (kvT l) (Sum.inl p) (.bl true) = kvT (ins p l) := by
  unfold putK
  rw [kvT_any]
  unfold ins
  by_cases e : p ∈ l
  · rw [decide_eq_true e, if_pos rfl, if_pos e]
    unfold kvT
    rw [List.map_map]
    refine List.map_congr_left fun a _ => ?_
    show (if (Sum.inl a : Key) = Sum.inl p then _ else _) = _
    split
    · rfl
    · rfl
  · rw [decide_eq_false e, if_neg Bool.false_ne_true, if_neg e]
    unfold kvT
    rw [List.map_append]
    rfl
def sendCode (x : BoxS × ToldS) : BoxS × ToldS :=
  if x.1.tf = "full" then
    match x.1.last with
    | some p => ({ x.1 with valid := ins p x.1.valid, sent := ins p x.1.sent }, { x.2 with letters := x.2.letters ++ [p] })
    | none => x
  else x
def act (x : BoxS × ToldS) (a : Str) : BoxS × ToldS :=
  if a = "code" then sendCode x
  else if a = "void" then ({ x.1 with valid := [] }, x.2)
  else if a = "look" then ({ x.1 with tf := if x.1.inside.isEmpty then "free" else "full" }, x.2)
  else if a = "lock" then ({ x.1 with ajar := false }, x.2)
  else ({ x.1 with tf := a }, x.2)
def carry (r : RuleL) (m : Str) (x : BoxS × ToldS) : BoxS × ToldS := r.foldl act (x.1, { x.2 with moments := x.2.moments ++ [m] })
structure Bd (n : Nat) (x : BoxS × ToldS) : Prop where
  i : x.1.inside.length ≤ n
  v : x.1.valid.length ≤ n
  s : x.1.sent.length ≤ n
  r : x.1.served.length ≤ n
  l : x.2.letters.length ≤ n
  w : x.2.wrongs.length ≤ n
  m : x.2.moments.length ≤ n
theorem Bd.mono {n m : Nat} {x : BoxS × ToldS} (h : Bd n x) (e : n ≤ m) : Bd m x := ⟨Nat.le_trans h.i e, Nat.le_trans h.v e, Nat.le_trans h.s e, Nat.le_trans h.r e, Nat.le_trans h.l e, Nat.le_trans h.w e, Nat.le_trans h.m e⟩
theorem Bd.send {n : Nat} {x : BoxS × ToldS} (h : Bd n x) : Bd (n + 1) (sendCode x) := by
  unfold sendCode
  split
  · split
    · rename_i p _
      have h1 := ins_len p x.1.valid
      have h2 := ins_len p x.1.sent
      refine ⟨Nat.le_succ_of_le h.i, ?_, ?_, Nat.le_succ_of_le h.r, ?_, Nat.le_succ_of_le h.w, Nat.le_succ_of_le h.m⟩
      · have := h.v; show (ins p x.1.valid).length ≤ n + 1; omega
      · have := h.s; show (ins p x.1.sent).length ≤ n + 1; omega
      · have := h.l; show (x.2.letters ++ [p]).length ≤ n + 1; rw [List.length_append]; show x.2.letters.length + 1 ≤ n + 1; omega
    · exact h.mono (Nat.le_succ n)
  · exact h.mono (Nat.le_succ n)
theorem Bd.act {n : Nat} {x : BoxS × ToldS} (h : Bd n x) (a : Str) : Bd (n + 1) (act x a) := by
  unfold K32.act
  have h1 := h.mono (Nat.le_succ n)
  split
  · exact h.send
  · split
    · exact ⟨h1.i, Nat.zero_le _, h1.s, h1.r, h1.l, h1.w, h1.m⟩
    · split
      · exact ⟨h1.i, h1.v, h1.s, h1.r, h1.l, h1.w, h1.m⟩
      · split
        · exact ⟨h1.i, h1.v, h1.s, h1.r, h1.l, h1.w, h1.m⟩
        · exact ⟨h1.i, h1.v, h1.s, h1.r, h1.l, h1.w, h1.m⟩
theorem Bd.foldl (r : RuleL) : ∀ {n : Nat} {x : BoxS × ToldS}, Bd n x → Bd (n + r.length) (r.foldl K32.act x) := by
  induction r with
  | nil => intro n x h; exact h
  | cons a r ih =>
    intro n x h
    have := ih (h.act a)
    rw [List.length_cons, show n + (r.length + 1) = n + 1 + r.length by omega]
    exact this
theorem Bd.mom {n : Nat} {x : BoxS × ToldS} (h : Bd n x) (m : Str) : Bd (n + 1) (x.1, { x.2 with moments := x.2.moments ++ [m] }) := by
  have h1 := h.mono (Nat.le_succ n)
  refine ⟨h1.i, h1.v, h1.s, h1.r, h1.l, h1.w, ?_⟩
  have := h.m
  show (x.2.moments ++ [m]).length ≤ n + 1
  rw [List.length_append]
  show x.2.moments.length + 1 ≤ n + 1
  omega
theorem Bd.carry {n : Nat} {x : BoxS × ToldS} (h : Bd n x) (r : RuleL) (m : Str) : Bd (n + 1 + r.length) (carry r m x) := (h.mom m).foldl r
def BTx (K : PySem.W.Frag) (H0 H : Hp) (b t : Addr) (x : BoxS × ToldS) : Prop := ∃ dx li dv ds dr dt yb ll lg lw lm, BT K H0 H b dx li dv ds dr x.1 t dt yb ll lg lw lm x.2
theorem lt_line {n : Nat} (h : n ≤ 1000000) : n < sizeLine := Nat.lt_of_le_of_lt h (by decide)
section
variable {P : Program} {w : World} {K : PySem.W.Frag} {mg : Str → Option Value} {base : Heap}
def sp_Box_send_code (K : PySem.W.Frag) : Sp := fun vs H Q _ => ∃ (H0 : Hp) (b t : Addr) (x : BoxS × ToldS) (n : Nat), vs = [.ref b, .ref t] ∧ BTx K H0 H b t x ∧ Bd n x ∧ n < 1000000 ∧ ∀ H', BTx K H0 H' b t (sendCode x) → Q .non H'
set_option maxHeartbeats 2000000 in
theorem ok_Box_send_code (T : Txt K mg) {fd : FuncData} (F : FunD K d_Box_send_code.name d_Box_send_code.qual d_Box_send_code.params d_Box_send_code.body d_Box_send_code.scope (d_Box_send_code.dvs K) (d_Box_send_code.kws K) (He.fAd K d_Box_send_code.at_) fd) : FnOk P w K mg base C8.CX0 1 (He.fAd K d_Box_send_code.at_) fd ["self", "told"] (sp_Box_send_code K) := by
  refine F.ok sc_Box_send_code (fun vs H Q E h => ?_) (fun cdv A outer s H vs Q E hr h => ?_)
  · obtain ⟨H0, b, t, x, n, rfl, _⟩ := h
    rfl
  · have hu := L2.hu_of hr
    obtain ⟨H0, b, t, ⟨S, U⟩, n, rfl, ⟨dx, li, dv, ds, dr, dt, yb, ll, lg, lw, lm, h⟩, bd, hn, q⟩ := h
    refine ⟨_, (PSs.nox ((pss_one (ps_if (PW.pt (pw_and (pt_cmpR op_eq (My.pe_fldK (K := K) rfl (pv 0) rfl) pe_str (nomark _)) (pw_and1 (pt_cmpR op_notN (My.pe_fldK (K := K) rfl (pv 0) rfl) pe_non (nomark _)))))
  (pss_cons (ps_dput hu (My.pe_fldK (K := K) rfl (pv 0) rfl) (My.pe_fldK (K := K) rfl (pv 0) rfl) pe_bl rfl)
  (pss_cons (ps_dput hu (My.pe_fldK (K := K) rfl (pv 0) rfl) (My.pe_fldK (K := K) rfl (pv 0) rfl) pe_bl rfl)
  (pss_one (ps_expr (My.pe_bmK (K := K) rfl PySem.F.plainAttrs_list PySem.F.slot_list_append PySem.F.type_list_append mt_append (My.pe_fldK (K := K) rfl (pv 1) rfl) (pa_cons (My.pe_fldK (K := K) rfl (pv 0) rfl) pa_nil))))))
  pss_nil)))), ?_⟩
    refine ⟨_, rfl, b, _, dx, _, _, rfl, h.hb, T.cl_Box, T.no_Box_taken_for, rfl, rfl, _, rfl, ?_⟩
    by_cases c : S.tf = "full"
    · have e : decide (V.str S.tf = V.str "full") = true := decide_eq_true (congrArg V.str c)
      rw [e]
      refine ⟨_, rfl, b, _, dx, _, _, rfl, h.hb, T.cl_Box, T.no_Box_last, rfl, rfl, _, rfl, ?_⟩
      cases hl : S.last with
      | none =>
        have e0 : sendCode (S, U) = (S, U) := by
          unfold sendCode
          simp only [if_pos c, hl]
        rw [e0] at q
        exact q _ ⟨dx, li, dv, ds, dr, dt, yb, ll, lg, lw, lm, h⟩
      | some p =>
        have e0 : sendCode (S, U) = ({ S with valid := ins p S.valid, sent := ins p S.sent }, { U with letters := U.letters ++ [p] }) := by
          unfold sendCode
          simp only [if_pos c, hl]
        rw [e0] at q
        have hb := h.hb
        refine ⟨_, rfl, b, _, dx, _, _, rfl, hb, T.cl_Box, T.no_Box_valid, rfl, _, rfl, b, _, dx, _, oV S.last, rfl, hb, T.cl_Box, T.no_Box_last, rfl, dv, upd H dv (.dK (kvT (ins p S.valid))), rfl, ?_, ?_⟩
        · rw [hl, ← putK_kvT]
          exact DPut.k (k := Sum.inl p) h.hdv (by rw [kvT_len]; exact lt_line (by have := bd.v; show S.valid.length ≤ 1000000; have z : S.valid.length ≤ n := bd.v; omega))
        have h2 := h.set_dv (S' := { S with valid := ins p S.valid }) rfl
        have hb2 := h2.hb
        refine ⟨_, rfl, b, _, dx, _, _, rfl, hb2, T.cl_Box, T.no_Box_sent, rfl, _, rfl, b, _, dx, _, oV S.last, rfl, hb2, T.cl_Box, T.no_Box_last, rfl, ds, upd (upd H dv (.dK (kvT (ins p S.valid)))) ds (.dK (kvT (ins p S.sent))), rfl, ?_, ?_⟩
        · rw [hl, ← putK_kvT S.sent p]
          exact DPut.k (k := Sum.inl p) h2.hds (by rw [kvT_len]; exact lt_line (by show S.sent.length ≤ 1000000; have z : S.sent.length ≤ n := bd.s; omega))
        have h3 := h2.set_ds (S' := { S with valid := ins p S.valid, sent := ins p S.sent }) rfl
        refine ⟨_, rfl, t, _, dt, _, _, rfl, h3.ht, T.cl_Told, T.no_Told_letters, rfl, .inl ⟨rfl, _, SqL.of h3.hll⟩, _, rfl, b, _, dx, _, oV S.last, rfl, h3.hb, T.cl_Box, T.no_Box_last, rfl, ll, _, _, rfl, rfl, h3.hll, ?_, ?_⟩
        · rw [List.length_map]
          exact lt_line (by show U.letters.length ≤ 1000000; have z : U.letters.length ≤ n := bd.l; omega)
        · have h4 := h3.set_ll (T' := { U with letters := U.letters ++ [p] }) rfl
          have e4 : U.letters.map V.int ++ [oV S.last] = (U.letters ++ [p]).map V.int := by rw [hl, List.map_append]; rfl
          rw [e4]
          exact q _ ⟨dx, li, dv, ds, dr, dt, yb, ll, lg, lw, lm, h4⟩
    · have e : decide (V.str S.tf = V.str "full") = false := decide_eq_false (fun z => c (V.str.inj z))
      rw [e]
      have e0 : sendCode (S, U) = (S, U) := by
        unfold sendCode
        simp only [if_neg c]
      rw [e0] at q
      exact q _ ⟨dx, li, dv, ds, dr, dt, yb, ll, lg, lw, lm, h⟩
theorem c_Box_send_code (T : Txt K mg) : C8.Met P w K mg base 1 (He.ga K "Box") "_send_code" (sp_Box_send_code K) [] := by
  obtain ⟨fd, F⟩ := T.f_Box_send_code
  exact ⟨_, fd, _, _, T.cl_Box, T.m_Box_send_code, ok_Box_send_code T F, F.bindsN (fun _ _ _ _ _ _ us hl => match us, hl with | [_, _], _ => rfl), .nil⟩
def sp_Box_act (K : PySem.W.Frag) : Sp := fun vs H Q _ => ∃ (H0 : Hp) (b t : Addr) (a : Str) (x : BoxS × ToldS) (n : Nat), vs = [.ref b, .str a, .ref t] ∧ BTx K H0 H b t x ∧ Bd n x ∧ n < 1000000 ∧ ∀ H', BTx K H0 H' b t (act x a) → Q .non H'
theorem str_eqF {a b : Str} (h : ¬ a = b) : decide (V.str a = V.str b) = false := decide_eq_false fun z => h (V.str.inj z)
theorem str_eqT {a b : Str} (h : a = b) : decide (V.str a = V.str b) = true := decide_eq_true (congrArg V.str h)
set_option maxHeartbeats 2000000 in
theorem ok_Box_act (T : Txt K mg) {fd : FuncData} (F : FunD K d_Box_act.name d_Box_act.qual d_Box_act.params d_Box_act.body d_Box_act.scope (d_Box_act.dvs K) (d_Box_act.kws K) (He.fAd K d_Box_act.at_) fd) : FnOk P w K mg base C8.CX0 2 (He.fAd K d_Box_act.at_) fd ["self", "action", "told"] (sp_Box_act K) := by
  have c_Box_send_code := c_Box_send_code (P := P) (w := w) (base := base) T
  refine F.ok sc_Box_act (fun vs H Q E h => ?_) (fun cdv A outer s H vs Q E hr h => ?_)
  · obtain ⟨H0, b, t, a, x, n, rfl, _⟩ := h
    rfl
  · have hu := L2.hu_of hr
    obtain ⟨H0, b, t, a, ⟨S, U⟩, n, rfl, hx, bd, hn, q⟩ := h
    refine ⟨_, (PSs.nox ((pss_one (ps_if (pt_cmpR op_eq (pv 1) pe_str (nomark _))
  (pss_one (ps_expr (C8.pe_mt c_Box_send_code hr (by decide) (pv 0) (pa_cons (pv 2) pa_nil))))
  (pss_one (ps_if (pt_cmpR op_eq (pv 1) pe_str (nomark _))
  (pss_one (ps_fld (pv 0) pe_dnewK rfl))
  (pss_one (ps_if (pt_cmpR op_eq (pv 1) pe_str (nomark _))
  (pss_one (ps_fld (pv 0) (pe_ifExp (My.pt_truthK (K := K) rfl (My.pe_fldK (K := K) rfl (pv 0) rfl) (by intro _; rfl)) pe_str pe_str) rfl))
  (pss_one (ps_if (pt_cmpR op_eq (pv 1) pe_str (nomark _))
  (pss_one (ps_fld (pv 0) pe_bl rfl))
  (pss_one (ps_fld (pv 0) (pv 1) rfl)))))))))))), ?_⟩
    refine ⟨_, rfl, rfl, _, rfl, ?_⟩
    by_cases c1 : a = "code"
    · rw [str_eqT c1]
      have e0 : act (S, U) a = sendCode (S, U) := by unfold act; rw [if_pos c1]
      rw [e0] at q
      obtain ⟨dx, li, dv, ds, dr, dt, yb, ll, lg, lw, lm, h⟩ := id hx
      exact ⟨_, rfl, b, dx, _, rfl, h.hb, rfl, _, rfl, H0, b, t, (S, U), n, rfl, hx, bd, hn, q⟩
    rw [str_eqF c1]
    obtain ⟨dx, li, dv, ds, dr, dt, yb, ll, lg, lw, lm, h⟩ := id hx
    refine ⟨_, rfl, rfl, _, rfl, ?_⟩
    by_cases c2 : a = "void"
    · rw [str_eqT c2]
      have e0 : act (S, U) a = ({ S with valid := [] }, U) := by unfold act; rw [if_neg c1, if_pos c2]
      rw [e0] at q
      refine fun p hp => ?_
      have npb : b ≠ p := ne_of_none h.hb hp
      refine ⟨_, rfl, b, _, dx, _, rfl, (by rw [upd_ne npb]; exact h.hb), T.cl_Box, T.no_Box_valid, (by show 8 < 1000; decide), ?_⟩
      exact q _ ⟨dx, li, p, ds, dr, dt, yb, ll, lg, lw, lm, h.new_dv hp⟩
    rw [str_eqF c2]
    refine ⟨_, rfl, rfl, _, rfl, ?_⟩
    by_cases c3 : a = "look"
    · rw [str_eqT c3]
      have e0 : act (S, U) a = ({ S with tf := if S.inside.isEmpty then "free" else "full" }, U) := by unfold act; rw [if_neg c1, if_neg c2, if_pos c3]
      rw [e0] at q
      refine ⟨_, rfl, b, _, dx, _, _, rfl, h.hb, T.cl_Box, T.no_Box_inside, rfl, !(S.inside.map V.int).isEmpty, .inl ⟨_, SqL.of h.hli, rfl⟩, ?_⟩
      have h1 := h.set_b (S' := { S with tf := if S.inside.isEmpty then "free" else "full" }) rfl rfl rfl rfl
      rw [List.isEmpty_map]
      cases c : S.inside.isEmpty with
      | true =>
        rw [c] at h1 q
        exact ⟨_, rfl, b, _, dx, _, rfl, h.hb, T.cl_Box, T.no_Box_taken_for, (by show 8 < 1000; decide), q _ ⟨dx, li, dv, ds, dr, dt, yb, ll, lg, lw, lm, h1⟩⟩
      | false =>
        rw [c] at h1 q
        exact ⟨_, rfl, b, _, dx, _, rfl, h.hb, T.cl_Box, T.no_Box_taken_for, (by show 8 < 1000; decide), q _ ⟨dx, li, dv, ds, dr, dt, yb, ll, lg, lw, lm, h1⟩⟩
    rw [str_eqF c3]
    refine ⟨_, rfl, rfl, _, rfl, ?_⟩
    by_cases c4 : a = "lock"
    · rw [str_eqT c4]
      have e0 : act (S, U) a = ({ S with ajar := false }, U) := by unfold act; rw [if_neg c1, if_neg c2, if_neg c3, if_pos c4]
      rw [e0] at q
      have h1 := h.set_b (S' := { S with ajar := false }) rfl rfl rfl rfl
      exact ⟨_, rfl, b, _, dx, _, rfl, h.hb, T.cl_Box, T.no_Box_ajar, (by show 8 < 1000; decide), q _ ⟨dx, li, dv, ds, dr, dt, yb, ll, lg, lw, lm, h1⟩⟩
    rw [str_eqF c4]
    have e0 : act (S, U) a = ({ S with tf := a }, U) := by unfold act; rw [if_neg c1, if_neg c2, if_neg c3, if_neg c4]
    rw [e0] at q
    have h1 := h.set_b (S' := { S with tf := a }) rfl rfl rfl rfl
    exact ⟨_, rfl, _, rfl, b, _, dx, _, rfl, h.hb, T.cl_Box, T.no_Box_taken_for, (by show 8 < 1000; decide), q _ ⟨dx, li, dv, ds, dr, dt, yb, ll, lg, lw, lm, h1⟩⟩
theorem c_Box_act (T : Txt K mg) : C8.Met P w K mg base 2 (He.ga K "Box") "_act" (sp_Box_act K) [] := by
  obtain ⟨fd, F⟩ := T.f_Box_act
  exact ⟨_, fd, _, _, T.cl_Box, T.m_Box_act, ok_Box_act T F, F.bindsN (fun _ _ _ _ _ _ us hl => match us, hl with | [_, _, _], _ => rfl), .nil⟩
def sp_Box_carry_out (K : PySem.W.Frag) : Sp := fun vs H Q _ => ∃ (H0 : Hp) (b t k : Addr) (m : Str) (i : Nat) (r : RuleL) (d : Int) (rs : List RuleL) (x : BoxS × ToldS) (n : Nat), vs = [.ref b, .ref k, .str m, .ref t] ∧ BTx K H0 H b t x ∧ BookAt K H0 k d rs ∧ moms[i]? = some m ∧ rs[i]? = some r ∧
  r.length ≤ 6 ∧ Bd n x ∧ n < 999900 ∧ ∀ H', BTx K H0 H' b t (carry r m x) → Q .non H'
theorem BTx.same {K : PySem.W.Frag} {H0 H : Hp} {b t : Addr} {x : BoxS × ToldS} (h : BTx K H0 H b t x) : Same H0 H := by
  obtain ⟨dx, li, dv, ds, dr, dt, yb, ll, lg, lw, lm, h⟩ := h
  exact h.same
set_option maxHeartbeats 2000000 in
theorem ok_Box_carry_out (T : Txt K mg) {fd : FuncData} (F : FunD K d_Box_carry_out.name d_Box_carry_out.qual d_Box_carry_out.params d_Box_carry_out.body d_Box_carry_out.scope (d_Box_carry_out.dvs K) (d_Box_carry_out.kws K) (He.fAd K d_Box_carry_out.at_) fd) : FnOk P w K mg base C8.CX0 3 (He.fAd K d_Box_carry_out.at_) fd ["self", "book", "moment", "told"] (sp_Box_carry_out K) := by
  have c_Book_rule := c_Book_rule (P := P) (w := w) (base := base) T
  have c_Box_act := c_Box_act (P := P) (w := w) (base := base) T
  refine F.ok sc_Box_carry_out (fun vs H Q E h => ?_) (fun cdv A outer s H vs Q E hr h => ?_)
  · obtain ⟨H0, b, t, k, m, i, r, d, rs, x, n, rfl, _⟩ := h
    rfl
  · have hu := L2.hu_of hr
    obtain ⟨H0, b, t, k, m, i, r, d, rs, ⟨S, U⟩, n, rfl, hx, hk, hm, hr1, h6, bd, hn, q⟩ := h
    refine ⟨_, (PSs.nox ((pss_cons (ps_expr (My.pe_bmK (K := K) rfl PySem.F.plainAttrs_list PySem.F.slot_list_append PySem.F.type_list_append mt_append (My.pe_fldK (K := K) rfl (pv 3) rfl) (pa_cons (pv 2) pa_nil)))
  (pss_one (ps_for PassesOwn.never rfl (My.pi_tupK (K := K) rfl (C8.pe_mt c_Book_rule hr (by decide) (pv 1) (pa_cons (pv 2) pa_nil))) (pg_name (i := 4) sc_Box_carry_out.nd rfl (by first | exact Or.inl rfl | exact Or.inr rfl))
  (pss_one (ps_expr (C8.pe_mt c_Box_act hr (by decide) (pv 0) (pa_cons (pv 4) (pa_cons (pv 3) pa_nil)))))))))), ?_⟩
    obtain ⟨dx, li, dv, ds, dr, dt, yb, ll, lg, lw, lm, h⟩ := id hx
    refine ⟨_, rfl, t, _, dt, _, _, rfl, h.ht, T.cl_Told, T.no_Told_moments, rfl, .inl ⟨rfl, _, SqL.of h.hlm⟩, _, rfl, lm, _, _, rfl, rfl, h.hlm, ?_, ?_⟩
    · rw [List.length_map]
      exact lt_line (by show U.moments.length ≤ 1000000; have z : U.moments.length ≤ n := bd.m; omega)
    have h1 := h.set_lm (T' := { U with moments := U.moments ++ [m] }) rfl
    have e4 : U.moments.map V.str ++ [V.str m] = (U.moments ++ [m]).map V.str := by rw [List.map_append]; rfl
    rw [e4]
    have hx1 : BTx K H0 (upd H lm (.lst ((U.moments ++ [m]).map V.str))) b t (S, { U with moments := U.moments ++ [m] }) := ⟨dx, li, dv, ds, dr, dt, yb, ll, lg, lw, lm, h1⟩
    obtain ⟨dk, tk, ak, hkb, _⟩ := id (hk.same hx1.same)
    refine ⟨_, rfl, k, dk, _, rfl, hkb, rfl, _, rfl, H0, k, d, rs, m, i, r, rfl, hx1.same, hk, hm, hr1, fun a ha => ?_⟩
    have hbd : ∀ j, Bd (n + 1 + j) ((r.take j).foldl act (S, { U with moments := U.moments ++ [m] })) := fun j => (((bd.mom m).foldl (r.take j)).mono (by rw [List.length_take]; omega))
    refine ⟨a, rfl, ⟨_, same_tup hx1.same ha⟩, for_tup (K := K) (xs := r.map V.str) (fun j σ H' => ∃ u, σ = [some (.ref b), some (.ref k), some (.str m), some (.ref t), u] ∧ BTx K H0 H' b t ((r.take j).foldl act (S, { U with moments := U.moments ++ [m] }))) ⟨_, rfl, hx1⟩ (fun j σ H' _ ⟨_, _, z⟩ => same_tup z.same ha) ?_ ?_⟩
    · rintro j y σ H2 hj ⟨u, rfl, hx2⟩
      obtain ⟨z, hz, rfl⟩ := map_get hj
      have hlt : j < r.length := (List.getElem?_eq_some_iff.mp hz).1
      obtain ⟨dx2, li2, dv2, ds2, dr2, dt2, yb2, ll2, lg2, lw2, lm2, h2⟩ := id hx2
      refine ⟨_, rfl, b, dx2, _, rfl, h2.hb, rfl, _, rfl, _, rfl, H0, b, t, z, _, n + 1 + j, rfl, hx2, hbd j, by omega, fun H3 hx3 => ?_⟩
      refine ⟨_, rfl, ?_⟩
      rw [take_more hz, List.foldl_append]
      exact hx3
    · rintro σ H2 ⟨u, rfl, hx2⟩
      rw [List.length_map, List.take_length] at hx2
      exact q _ hx2
theorem c_Box_carry_out (T : Txt K mg) : C8.Met P w K mg base 3 (He.ga K "Box") "_carry_out" (sp_Box_carry_out K) [] := by
  obtain ⟨fd, F⟩ := T.f_Box_carry_out
  exact ⟨_, fd, _, _, T.cl_Box, T.m_Box_carry_out, ok_Box_carry_out T F, F.bindsN (fun _ _ _ _ _ _ us hl => match us, hl with | [_, _, _, _], _ => rfl), .nil⟩
/-- the last step of a bring, a code -/
def goAway (sh : Bool) (m1 m2 : Str) (r1 r2 : RuleL) (x : BoxS × ToldS) : BoxS × ToldS :=
  if x.1.ajar = true then (if sh = true then carry r1 m1 ({ x.1 with ajar := false }, x.2) else carry r2 m2 x) else x
theorem Bd.go {n : Nat} {x : BoxS × ToldS} (h : Bd n x) {sh : Bool} {m1 m2 : Str} {r1 r2 : RuleL} (h1 : r1.length ≤ 6) (h2 : r2.length ≤ 6) : Bd (n + 7) (goAway sh m1 m2 r1 r2 x) := by
  unfold goAway
  split
  · split
    · exact (Bd.carry (x := ({ x.1 with ajar := false }, x.2)) ⟨h.i, h.v, h.s, h.r, h.l, h.w, h.m⟩ r1 m1).mono (by omega)
    · exact (h.carry r2 m2).mono (by omega)
  · exact h.mono (by omega)
def sp_Box_go_away (K : PySem.W.Frag) : Sp := fun vs H Q _ => ∃ (H0 : Hp) (b t k g : Addr) (sh : Bool) (m1 m2 : Str) (i1 i2 : Nat) (r1 r2 : RuleL) (d : Int) (rs : List RuleL) (x : BoxS × ToldS) (n : Nat), vs = [.ref b, .ref k, .bl sh, .ref g, .ref t] ∧ BTx K H0 H b t x ∧ BookAt K H0 k d rs ∧
  SqT K H g [.str m1, .str m2] ∧ moms[i1]? = some m1 ∧ rs[i1]? = some r1 ∧ r1.length ≤ 6 ∧ moms[i2]? = some m2 ∧ rs[i2]? = some r2 ∧ r2.length ≤ 6 ∧ Bd n x ∧ n < 999000 ∧ ∀ H', BTx K H0 H' b t (goAway sh m1 m2 r1 r2 x) → Q .non H'
set_option maxHeartbeats 2000000 in
theorem ok_Box_go_away (T : Txt K mg) {fd : FuncData} (F : FunD K d_Box_go_away.name d_Box_go_away.qual d_Box_go_away.params d_Box_go_away.body d_Box_go_away.scope (d_Box_go_away.dvs K) (d_Box_go_away.kws K) (He.fAd K d_Box_go_away.at_) fd) : FnOk P w K mg base C8.CX0 4 (He.fAd K d_Box_go_away.at_) fd ["self", "book", "shuts", "moments", "told"] (sp_Box_go_away K) := by
  have c_Box_carry_out := c_Box_carry_out (P := P) (w := w) (base := base) T
  refine F.ok sc_Box_go_away (fun vs H Q E h => ?_) (fun cdv A outer s H vs Q E hr h => ?_)
  · obtain ⟨H0, b, t, k, g, sh, m1, m2, i1, i2, r1, r2, d, rs, x, n, rfl, _⟩ := h
    rfl
  · have hu := L2.hu_of hr
    obtain ⟨H0, b, t, k, g, sh, m1, m2, i1, i2, r1, r2, d, rs, ⟨S, U⟩, n, rfl, hx, hk, hg, hm1, hr1, hl1, hm2, hr2, hl2, bd, hn, q⟩ := h
    refine ⟨_, (PSs.nox ((pss_cons (ps_if (pt_not (pt_val (My.pe_fldK (K := K) rfl (pv 0) rfl)))
  (pss_one ps_retN)
  pss_nil)
  (pss_cons (ps_asg (pv 3) (My.pg_tupK (K := K) (n := 2) rfl rfl (pgs_cons (pg_name (i := 5) sc_Box_go_away.nd rfl (by first | exact Or.inl rfl | exact Or.inr rfl)) (pgs_cons (pg_name (i := 6) sc_Box_go_away.nd rfl (by first | exact Or.inl rfl | exact Or.inr rfl)) pgs_nil))))
  (pss_one (ps_if (pt_val (pv 2))
  (pss_cons (ps_fld (pv 0) pe_bl rfl)
  (pss_one (ps_expr (C8.pe_mt c_Box_carry_out hr (by decide) (pv 0) (pa_cons (pv 1) (pa_cons (pv 5) (pa_cons (pv 4) pa_nil)))))))
  (pss_one (ps_expr (C8.pe_mt c_Box_carry_out hr (by decide) (pv 0) (pa_cons (pv 1) (pa_cons (pv 6) (pa_cons (pv 4) pa_nil)))))))))))), ?_⟩
    obtain ⟨dx, li, dv, ds, dr, dt, yb, ll, lg, lw, lm, h⟩ := id hx
    refine ⟨_, rfl, b, _, dx, _, _, rfl, h.hb, T.cl_Box, T.no_Box_ajar, rfl, _, rfl, ?_⟩
    unfold goAway at q
    have e1 : S.ajar = (S, U).1.ajar := rfl
    cases c : S.ajar with
    | false =>
      rw [if_neg (by rw [← e1, c]; exact Bool.false_ne_true)] at q
      exact q _ hx
    | true =>
      rw [if_pos (by rw [← e1, c])] at q
      refine ⟨_, rfl, g, _, rfl, hg, rfl, _, _, rfl, _, _, rfl, rfl, ?_⟩
      refine ⟨_, rfl, _, rfl, ?_⟩
      cases sh with
      | true =>
        rw [if_pos rfl] at q
        refine ⟨_, rfl, b, _, dx, _, rfl, h.hb, T.cl_Box, T.no_Box_ajar, (by show 8 < 1000; decide), ?_⟩
        have h1 := h.set_b (S' := { S with ajar := false }) rfl rfl rfl rfl
        have hx1 : BTx K H0 _ b t ({ S with ajar := false }, U) := ⟨dx, li, dv, ds, dr, dt, yb, ll, lg, lw, lm, h1⟩
        exact ⟨_, rfl, b, dx, _, rfl, upd_same, rfl, _, rfl, _, rfl, _, rfl, H0, b, t, k, m1, i1, r1, d, rs, _, n, rfl, hx1, hk, hm1, hr1, hl1, ⟨bd.i, bd.v, bd.s, bd.r, bd.l, bd.w, bd.m⟩, by omega, q⟩
      | false =>
        rw [if_neg Bool.false_ne_true] at q
        exact ⟨_, rfl, b, dx, _, rfl, h.hb, rfl, _, rfl, _, rfl, _, rfl, H0, b, t, k, m2, i2, r2, d, rs, _, n, rfl, hx, hk, hm2, hr2, hl2, bd, by omega, q⟩
theorem c_Box_go_away (T : Txt K mg) : C8.Met P w K mg base 4 (He.ga K "Box") "_go_away" (sp_Box_go_away K) [] := by
  obtain ⟨fd, F⟩ := T.f_Box_go_away
  exact ⟨_, fd, _, _, T.cl_Box, T.m_Box_go_away, ok_Box_go_away T F, F.bindsN (fun _ _ _ _ _ _ us hl => match us, hl with | [_, _, _, _, _], _ => rfl), .nil⟩
/-- somebody takes all that lies here -/
def letTake (own : Option Int) (x : BoxS × ToldS) : BoxS × ToldS :=
  ({ x.1 with inside := [], served := match own with
      | some p => if p ∈ x.1.inside then ins p x.1.served else x.1.served
      | none => x.1.served },
   { x.2 with got := x.1.inside, wrongs := if x.1.inside.any (fun p => decide (some p ≠ own)) = true then x.2.wrongs ++ [("wrong" : Str)] else x.2.wrongs })
theorem Bd.take {n : Nat} {x : BoxS × ToldS} (h : Bd n x) (own : Option Int) : Bd (n + 1) (letTake own x) := by
  have h1 := h.mono (Nat.le_succ n)
  refine ⟨Nat.zero_le _, h1.v, h1.s, ?_, h1.l, ?_, h1.m⟩
  · have := h.r
    unfold letTake
    cases own with
    | none => exact h1.r
    | some p =>
      show (if p ∈ x.1.inside then ins p x.1.served else x.1.served).length ≤ n + 1
      have := ins_len p x.1.served
      split <;> omega
  · have := h.w
    show (if x.1.inside.any (fun p => decide (some p ≠ own)) = true then x.2.wrongs ++ [("wrong" : Str)] else x.2.wrongs).length ≤ n + 1
    split
    · rw [List.length_append]
      show x.2.wrongs.length + 1 ≤ n + 1
      omega
    · omega
end
end K32

namespace K32
open PySem PySem.Spec PyProof.Rows L2 My
theorem inV_int (p : Int) (l : List Int) : inV (.int p) (l.map V.int) = decide (p ∈ l) := by
  induction l with
  | nil => rfl
  | cons a l ih =>
    show (eqV (.int a) (.int p) || inV (.int p) (l.map V.int)) = _
    rw [ih]
    show ((a == p) || decide (p ∈ l)) = _
    by_cases e : a = p
    · subst e; simp
    · have e2 : ¬ p = a := fun z => e z.symm
      simp [e, e2]
theorem inV_non (l : List Int) : inV .non (l.map V.int) = false := by
  induction l with
  | nil => rfl
  | cons a l ih =>
    show (eqV (.int a) .non || inV .non (l.map V.int)) = _
    rw [ih]
    rfl
theorem all_flat_int (l : List Int) : (l.map V.int).all flatV = true := by
  rw [List.all_map]
  exact List.all_eq_true.mpr fun _ _ => rfl
theorem BT.to {K : PySem.W.Frag} {H0 H H' : Hp} {b dx li dv ds dr : Addr} {S : BoxS} {t dt : Addr} {yb : Bool} {ll lg lw lm : Addr} {U : ToldS} (h : BT K H0 H b dx li dv ds dr S t dt yb ll lg lw lm U) (s : Same H H') : BT K H0 H' b dx li dv ds dr S t dt yb ll lg lw lm U :=
  ⟨h.same.trans s, h.nd, h.new, s _ _ h.hb, s _ _ h.hli, s _ _ h.hdv, s _ _ h.hds, s _ _ h.hdr, s _ _ h.ht, s _ _ h.hll, s _ _ h.hlg, s _ _ h.hlw, s _ _ h.hlm⟩
section
variable {P : Program} {w : World} {K : PySem.W.Frag} {mg : Str → Option Value} {base : Heap}
def sp_Box_let_take (K : PySem.W.Frag) : Sp := fun vs H Q _ => ∃ (H0 : Hp) (b t : Addr) (own : Option Int) (x : BoxS × ToldS) (n : Nat), vs = [.ref b, oV own, .ref t] ∧ BTx K H0 H b t x ∧ Bd n x ∧ n < 999000 ∧ ∀ H', BTx K H0 H' b t (letTake own x) → Q .non H'
set_option maxHeartbeats 2000000 in
theorem ok_Box_let_take (T : Txt K mg) {fd : FuncData} (F : FunD K d_Box_let_take.name d_Box_let_take.qual d_Box_let_take.params d_Box_let_take.body d_Box_let_take.scope (d_Box_let_take.dvs K) (d_Box_let_take.kws K) (He.fAd K d_Box_let_take.at_) fd) : FnOk P w K mg base C8.CX0 1 (He.fAd K d_Box_let_take.at_) fd ["self", "own", "told"] (sp_Box_let_take K) := by
  refine F.ok sc_Box_let_take (fun vs H Q E h => ?_) (fun cdv A outer s H vs Q E hr h => ?_)
  · obtain ⟨H0, b, t, own, x, n, rfl, _⟩ := h
    rfl
  · have hu := L2.hu_of hr
    obtain ⟨H0, b, t, own, ⟨S, U⟩, n, rfl, ⟨dx, li, dv, ds, dr, dt, yb, ll, lg, lw, lm, h⟩, bd, hn, q⟩ := h
    refine ⟨_, (PSs.nox ((pss_cons (ps_fld (pv 2) (My.pe_fldK (K := K) rfl (pv 0) rfl) rfl)
  (pss_cons (ps_fld (pv 0) (pe_lst pa_nil) rfl)
  (pss_cons (ps_if (pt_cmpR (My.in_seqK (K := K) rfl) (pv 1) (My.pe_fldK (K := K) rfl (pv 2) rfl) (by rfl))
  (pss_one (ps_dput hu (My.pe_fldK (K := K) rfl (pv 0) rfl) (pv 1) pe_bl rfl))
  pss_nil)
  (pss_one (ps_if (pt_val (pe_callB (My.anyK (K := K) rfl rfl) (by rfl) T.any (by decide +kernel) (pa_cons (pe_lc (own := [("parcel", 3)]) (g := (gName 3)) (tt := tYes) (by rfl) sc_Box_let_take.nd (My.pi_listK (K := K) rfl (My.pe_fldK (K := K) rfl (pv 2) rfl)) (blkOk_by (N := N_Box_let_take) (sc := defScope s_Box_let_take) (by decide +kernel)) (fun _ _ _ _ _ => (pg_name (i := 3) sc_Box_let_take.nd rfl (by first | exact Or.inl rfl | exact Or.inr rfl))) (fun _ _ _ _ _ => pts_nil) (fun _ _ _ _ _ => (pe_cmpR op_ne (pv 3) (pv 1) (nomark _)))) pa_nil)))
  (pss_one (ps_expr (My.pe_bmK (K := K) rfl PySem.F.plainAttrs_list PySem.F.slot_list_append PySem.F.type_list_append mt_append (My.pe_fldK (K := K) rfl (pv 2) rfl) (pa_cons pe_str pa_nil))))
  pss_nil))))))), ?_⟩
    have nbt : b ≠ t := nd_ne h.nd (i := 0) (j := 5) rfl rfl (by decide)
    refine ⟨_, rfl, b, _, dx, _, _, rfl, h.hb, T.cl_Box, T.no_Box_inside, rfl, _, rfl, t, _, dt, _, rfl, h.ht, T.cl_Told, T.no_Told_got, (by show 6 < 1000; decide), ?_⟩
    refine ⟨Nat.zero_le _, fun p hp => ?_⟩
    have npt : p ≠ t := by
      intro z
      rw [z, upd_same] at hp
      cases hp
    rw [upd_ne npt] at hp
    have h1 := h.hand hp
    have npb : b ≠ p := ne_of_none h.hb hp
    refine ⟨_, rfl, b, _, dx, _, rfl, (by rw [upd_ne npb, upd_ne nbt]; exact h.hb), T.cl_Box, T.no_Box_inside, (by show 8 < 1000; decide), ?_⟩
    refine ⟨_, rfl, _, rfl, t, _, dt, _, _, rfl, h1.ht, T.cl_Told, T.no_Told_got, rfl, li, _, rfl, .inl (SqL.of h1.hlg), ?_, all_flat_int _, _, rfl, ?_⟩
    · cases own <;> rfl
    let W : List Str := if S.inside.any (fun p => decide (some p ≠ own)) = true then U.wrongs ++ [("wrong" : Str)] else U.wrongs
    -- what is left: any(..), wrongs.append
    have last : ∀ (H1 : Hp) (S1 : BoxS), BT K H0 H1 b dx p dv ds dr S1 t dt yb ll li lw lm { U with got := S.inside } →
        (∀ H', BTx K H0 H' b t (S1, { U with got := S.inside, wrongs := W }) → Q .non H') →
        tIfS (tB (tCB (rAny K) (tCons (tLc (iList K (tFld K (tVar 2) "got")) (gName 3) tYes (tOp rNe (tVar 3) (tVar 1)) [3]) tNil))) (tSeq (tDrop (tBM K "list" rAppend (tFld K (tVar 2) "wrongs") (tCons (tC (.str "wrong")) tNil))) tNext) tNext
          { nx := fun _ H' => Q .non H', rt := Q } [some (.ref b), some (oV own), some (.ref t), none] H1 := by
      intro H1 S1 h2 q2
      have sl := h2.hlg
      refine ⟨_, rfl, t, _, dt, _, _, rfl, h2.ht, T.cl_Told, T.no_Told_got, rfl, li, rfl, ⟨_, SqL.of sl⟩, fun D hD => lc_list (K := K) (a := li) (xs := S.inside.map V.int) (fun i H' => Same H1 H' ∧ H' D = some (.lst (((S.inside.take i).map (fun p => decide (some p ≠ own))).map V.bl))) ⟨same_new hD, upd_same⟩ (fun i H' _ z => SqL.of (z.1 _ _ sl)) ?_ ?_⟩
      · rintro i y H2 hi ⟨s2, hD2⟩
        obtain ⟨z, hz, rfl⟩ := map_get hi
        refine ⟨rfl, ?_⟩
        refine ⟨_, rfl, _, rfl, by cases own <;> rfl, _, hD2, ?_, same_upd s2 hD, ?_⟩
        · rw [List.length_map, List.length_map, List.length_take]
          have zz : S.inside.length ≤ n := bd.i
          exact lt_line (by omega)
        · rw [upd_same, take_more hz, List.map_append, List.map_append]
          have e : (!decide (V.int z = oV own)) = decide (some z ≠ own) := by
            cases own with
            | none => rfl
            | some k =>
              by_cases c : z = k
              · subst c
                simp [oV]
              · have c2 : ¬ V.int z = V.int k := fun e => c (V.int.inj e)
                simp [oV, c, c2]
          rw [e]
          rfl
      · rintro H2 ⟨s2, hD2⟩
        rw [List.length_map, List.take_length] at hD2
        refine ⟨D, _, rfl, SqL.of hD2, _, rfl, ?_⟩
        have h3 := h2.to s2
        have e : (S.inside.map (fun p => decide (some p ≠ own))).any id = S.inside.any (fun p => decide (some p ≠ own)) := by rw [List.any_map]; rfl
        rw [e]
        cases c : S.inside.any (fun p => decide (some p ≠ own)) with
        | false =>
          have eW : W = U.wrongs := if_neg (by rw [c]; exact Bool.false_ne_true)
          rw [eW] at q2
          exact q2 _ ⟨dx, p, dv, ds, dr, dt, yb, ll, li, lw, lm, h3⟩
        | true =>
          have eW : W = U.wrongs ++ [("wrong" : Str)] := if_pos c
          rw [eW] at q2
          refine ⟨_, rfl, t, _, dt, _, _, rfl, h3.ht, T.cl_Told, T.no_Told_wrongs, rfl, .inl ⟨rfl, _, SqL.of h3.hlw⟩, lw, _, _, rfl, rfl, h3.hlw, ?_, ?_⟩
          · have zz : U.wrongs.length ≤ n := bd.w
            rw [List.length_map]
            exact lt_line (by show U.wrongs.length ≤ 1000000; omega)
          · have h4 := h3.set_lw (T' := { U with got := S.inside, wrongs := U.wrongs ++ [("wrong" : Str)] }) rfl
            have e4 : U.wrongs.map V.str ++ [V.str "wrong"] = (U.wrongs ++ [("wrong" : Str)]).map V.str := by rw [List.map_append]; rfl
            show Q .non (upd H2 lw (.lst (U.wrongs.map V.str ++ [V.str "wrong"])))
            rw [e4]
            exact q2 _ ⟨dx, p, dv, ds, dr, dt, yb, ll, li, lw, lm, h4⟩
    cases own with
    | none =>
      show (if (if false = true then !inV V.non (S.inside.map V.int) else inV V.non (S.inside.map V.int)) = true then _ else _)
      rw [if_neg Bool.false_ne_true, inV_non]
      exact last _ _ h1 q
    | some o =>
      show (if (if false = true then !inV (.int o) (S.inside.map V.int) else inV (.int o) (S.inside.map V.int)) = true then _ else _)
      rw [if_neg Bool.false_ne_true, inV_int]
      have e0 : letTake (some o) (S, U) = ({ S with inside := [], served := if o ∈ S.inside then ins o S.served else S.served }, { U with got := S.inside, wrongs := W }) := rfl
      rw [e0] at q
      by_cases c : o ∈ S.inside
      · rw [decide_eq_true c, if_pos rfl]
        rw [if_pos c] at q
        refine ⟨_, rfl, b, _, dx, _, _, rfl, h1.hb, T.cl_Box, T.no_Box_served, rfl, _, rfl, dr, _, rfl, DPut.k (k := Sum.inl o) h1.hdr (by rw [kvT_len]; exact lt_line (by show S.served.length ≤ 1000000; have zz : S.served.length ≤ n := bd.r; omega)), ?_⟩
        rw [putK_kvT]
        exact last _ _ (h1.set_dr (S' := { S with inside := [], served := ins o S.served }) rfl) q
      · rw [decide_eq_false c, if_neg Bool.false_ne_true]
        rw [if_neg c] at q
        exact last _ _ h1 q
theorem c_Box_let_take (T : Txt K mg) : C8.Met P w K mg base 1 (He.ga K "Box") "_let_take" (sp_Box_let_take K) [] := by
  obtain ⟨fd, F⟩ := T.f_Box_let_take
  exact ⟨_, fd, _, _, T.cl_Box, T.m_Box_let_take, ok_Box_let_take T F, F.bindsN (fun _ _ _ _ _ _ us hl => match us, hl with | [_, _, _], _ => rfl), .nil⟩
end
end K32

namespace K32
open PySem PySem.Spec PyProof.Rows L2 My
/-- a box alone, over a heap in which none of it stands -/
structure BxA (K : PySem.W.Frag) (H0 H : Hp) (b dx li dv ds dr : Addr) (S : BoxS) : Prop where
  same : Same H0 H
  nd : [b, li, dv, ds, dr].Nodup
  new : ∀ a ∈ [b, li, dv, ds, dr], H0 a = none
  hb : H b = some (.ins (He.ga K "Box") dx (bxf S li dv ds dr))
  hli : H li = some (.lst (S.inside.map V.int))
  hdv : H dv = some (.dK (kvT S.valid))
  hds : H ds = some (.dK (kvT S.sent))
  hdr : H dr = some (.dK (kvT S.served))
def Bx (K : PySem.W.Frag) (H0 H : Hp) (b : Addr) (S : BoxS) : Prop := ∃ dx li dv ds dr, BxA K H0 H b dx li dv ds dr S
def T0 : ToldS := ⟨[], false, [], [], []⟩
def S0 : BoxS := ⟨false, [], "free", [], none, none, [], []⟩
section
variable {P : Program} {w : World} {K : PySem.W.Frag} {mg : Str → Option Value} {base : Heap}
def sp_Told_init (K : PySem.W.Frag) : Sp := fun vs H Q _ => ∃ (t dt : Addr), vs = [.ref t] ∧ H t = some (.ins (He.ga K "Told") dt []) ∧
  ∀ H' ll lg lw lm, But [t] H H' → [ll, lg, lw, lm].Nodup → (∀ a ∈ [ll, lg, lw, lm], H a = none) → H' t = some (.ins (He.ga K "Told") dt (tdf T0 false ll lg lw lm)) → H' ll = some (.lst []) → H' lg = some (.lst []) → H' lw = some (.lst []) → H' lm = some (.lst []) → Q .non H'
theorem up_none {H : Hp} {a b : Addr} {o : HO} (h : upd H a o b = none) : b ≠ a ∧ H b = none := by
  have n : b ≠ a := by
    intro z
    rw [z, upd_same] at h
    cases h
  rw [upd_ne n] at h
  exact ⟨n, h⟩
set_option maxHeartbeats 2000000 in
theorem ok_Told_init (T : Txt K mg) {fd : FuncData} (F : FunD K d_Told_init.name d_Told_init.qual d_Told_init.params d_Told_init.body d_Told_init.scope (d_Told_init.dvs K) (d_Told_init.kws K) (He.fAd K d_Told_init.at_) fd) : FnOk P w K mg base C8.CX0 1 (He.fAd K d_Told_init.at_) fd ["self"] (sp_Told_init K) := by
  refine F.ok sc_Told_init (fun vs H Q E h => ?_) (fun cdv A outer s H vs Q E hr h => ?_)
  · obtain ⟨t, dt, rfl, _⟩ := h
    rfl
  · have hu := L2.hu_of hr
    obtain ⟨t, dt, rfl, ht, q⟩ := h
    refine ⟨_, (PSs.nox ((pss_cons (ps_fld (pv 0) (pe_lst pa_nil) rfl)
  (pss_cons (ps_fld (pv 0) pe_bl rfl)
  (pss_cons (ps_fld (pv 0) (pe_lst pa_nil) rfl)
  (pss_cons (ps_fld (pv 0) pe_bl rfl)
  (pss_cons (ps_fld (pv 0) (pe_lst pa_nil) rfl)
  (pss_one (ps_fld (pv 0) (pe_lst pa_nil) rfl))))))))), ?_⟩
    refine ⟨Nat.zero_le _, fun p1 h1 => ?_⟩
    have n1 : t ≠ p1 := ne_of_none ht h1
    refine ⟨_, rfl, t, _, dt, _, rfl, (by rw [upd_ne n1]; exact ht), T.cl_Told, T.no_Told_letters, (by show 0 < 1000; decide), ?_⟩
    refine ⟨_, rfl, t, _, dt, _, rfl, upd_same, T.cl_Told, T.no_Told_opened, (by show 1 < 1000; decide), ?_⟩
    refine ⟨Nat.zero_le _, fun p2 h2 => ?_⟩
    obtain ⟨a2, h2⟩ := up_none h2
    obtain ⟨_, h2⟩ := up_none h2
    obtain ⟨b2, h2⟩ := up_none h2
    refine ⟨_, rfl, t, _, dt, _, rfl, (by rw [upd_ne a2.symm]; exact upd_same), T.cl_Told, T.no_Told_got, (by show 2 < 1000; decide), ?_⟩
    refine ⟨_, rfl, t, _, dt, _, rfl, upd_same, T.cl_Told, T.no_Told_lays, (by show 3 < 1000; decide), ?_⟩
    refine ⟨Nat.zero_le _, fun p3 h3 => ?_⟩
    obtain ⟨a3, h3⟩ := up_none h3
    obtain ⟨_, h3⟩ := up_none h3
    obtain ⟨c3, h3⟩ := up_none h3
    obtain ⟨_, h3⟩ := up_none h3
    obtain ⟨_, h3⟩ := up_none h3
    obtain ⟨b3, h3⟩ := up_none h3
    refine ⟨_, rfl, t, _, dt, _, rfl, (by rw [upd_ne a3.symm]; exact upd_same), T.cl_Told, T.no_Told_wrongs, (by show 4 < 1000; decide), ?_⟩
    refine ⟨Nat.zero_le _, fun p4 h4 => ?_⟩
    obtain ⟨a4, h4⟩ := up_none h4
    obtain ⟨d4, h4⟩ := up_none h4
    obtain ⟨_, h4⟩ := up_none h4
    obtain ⟨_, h4⟩ := up_none h4
    obtain ⟨c4, h4⟩ := up_none h4
    obtain ⟨_, h4⟩ := up_none h4
    obtain ⟨_, h4⟩ := up_none h4
    obtain ⟨b4, h4⟩ := up_none h4
    refine ⟨_, rfl, t, _, dt, _, rfl, (by rw [upd_ne a4.symm]; exact upd_same), T.cl_Told, T.no_Told_moments, (by show 5 < 1000; decide), ?_⟩
    have nt : t ∈ [t] := by simp
    refine q _ p1 p2 p3 p4 ?_ ?_ ?_ upd_same ?_ ?_ ?_ ?_
    · exact (((((((((((But.refl [t] H).put (.inl h1)).put (.inr nt)).put (.inr nt)).put (.inl h2)).put (.inr nt)).put (.inr nt)).put (.inl h3)).put (.inr nt)).put (.inl h4)).put (.inr nt))
    · simp only [List.nodup_cons, List.mem_cons, List.not_mem_nil, or_false, not_or, not_false_eq_true, List.nodup_nil, and_true]
      exact ⟨⟨b2.symm, b3.symm, b4.symm⟩, ⟨c3.symm, c4.symm⟩, d4.symm⟩
    · intro a ha
      simp only [List.mem_cons, List.not_mem_nil, or_false] at ha
      rcases ha with rfl | rfl | rfl | rfl <;> assumption
    · rw [upd_ne n1.symm, upd_ne b4.symm, upd_ne n1.symm, upd_ne b3.symm, upd_ne n1.symm, upd_ne n1.symm, upd_ne b2.symm, upd_ne n1.symm, upd_ne n1.symm, upd_same]
    · rw [upd_ne a2, upd_ne c4.symm, upd_ne a2, upd_ne c3.symm, upd_ne a2, upd_ne a2, upd_same]
    · rw [upd_ne a3, upd_ne d4.symm, upd_ne a3, upd_same]
    · rw [upd_ne a4, upd_same]
theorem c_Told_init (T : Txt K mg) : C8.Mak P w K mg base 1 "Told" (He.ga K "Told") (sp_Told_init K) [] := by
  obtain ⟨fd, F⟩ := T.f_Told_init
  exact ⟨_, fd, _, _, T.mk_Told, ok_Told_init T F, T.g_Told, F.bindsN (fun _ _ _ _ _ _ us hl => match us, hl with | [_], _ => rfl), .nil⟩
/-- a new told beside the box -/
theorem mkBT {H0 H H' : Hp} {b dx li dv ds dr t dt ll lg lw lm : Addr} {S : BoxS} (h : BxA K H0 H b dx li dv ds dr S) (ht : H t = none) (hdt : H dt = none) (hne : dt ≠ t) (bt : But [t] (upd (upd H dt (.own t)) t (.ins (He.ga K "Told") dt [])) H') (nd : [ll, lg, lw, lm].Nodup)
    (new : ∀ a ∈ [ll, lg, lw, lm], (upd (upd H dt (.own t)) t (.ins (He.ga K "Told") dt [])) a = none) (h1 : H' t = some (.ins (He.ga K "Told") dt (tdf T0 false ll lg lw lm))) (h2 : H' ll = some (.lst [])) (h3 : H' lg = some (.lst [])) (h4 : H' lw = some (.lst [])) (h5 : H' lm = some (.lst [])) :
    BT K H0 H' b dx li dv ds dr S t dt false ll lg lw lm T0 := by
  have s1 : Same H H' := fun c o e => bt c o (by simpa using ne_of_none e ht) (by rw [upd_ne (ne_of_none e ht), upd_ne (ne_of_none e hdt)]; exact e)
  have new2 : ∀ a ∈ [ll, lg, lw, lm], a ≠ t ∧ H a = none := fun a ha => by
    obtain ⟨x1, x2⟩ := up_none (new a ha)
    obtain ⟨_, x3⟩ := up_none x2
    exact ⟨x1, x3⟩
  have old : ∀ a ∈ [b, li, dv, ds, dr], ∃ o, H a = some o := fun a ha => by
    simp only [List.mem_cons, List.not_mem_nil, or_false] at ha
    rcases ha with rfl | rfl | rfl | rfl | rfl
    · exact ⟨_, h.hb⟩
    · exact ⟨_, h.hli⟩
    · exact ⟨_, h.hdv⟩
    · exact ⟨_, h.hds⟩
    · exact ⟨_, h.hdr⟩
  refine ⟨h.same.trans s1, ?_, ?_, s1 _ _ h.hb, s1 _ _ h.hli, s1 _ _ h.hdv, s1 _ _ h.hds, s1 _ _ h.hdr, h1, h2, h3, h4, h5⟩
  · show ([b, li, dv, ds, dr] ++ (t :: [ll, lg, lw, lm])).Nodup
    refine List.nodup_append.mpr ⟨h.nd, List.nodup_cons.mpr ⟨fun z => (new2 t z).1 rfl, nd⟩, fun x hx y hy e => ?_⟩
    subst e
    obtain ⟨o, ho⟩ := old x hx
    rcases List.mem_cons.mp hy with z | z
    · rw [z, ht] at ho
      cases ho
    · rw [(new2 x z).2] at ho
      cases ho
  · intro a ha
    have ha2 : a ∈ [b, li, dv, ds, dr] ++ (t :: [ll, lg, lw, lm]) := ha
    rcases List.mem_append.mp ha2 with z | z
    · exact h.new a z
    · rcases List.mem_cons.mp z with z | z
      · rw [z]
        exact h.same.free ht
      · exact h.same.free (new2 a z).2
theorem tupN {H0 H : Hp} {b t p : Addr} {x : BoxS × ToldS} {o : HO} (h : BTx K H0 H b t x) (hp : H p = none) : BTx K H0 (upd H p o) b t x := by
  obtain ⟨dx, li, dv, ds, dr, dt, yb, ll, lg, lw, lm, h⟩ := h
  exact ⟨dx, li, dv, ds, dr, dt, yb, ll, lg, lw, lm, h.to (same_new hp)⟩
end
end K32

namespace K32
open PySem PySem.Spec PyProof.Rows L2 My
def at_ (rs : List RuleL) (i : Nat) : RuleL := (rs[i]?).getD []
structure GoodB (rs : List RuleL) : Prop where
  len : rs.length = 8
  good : ∀ r ∈ rs, GoodRule r
theorem GoodB.get {rs : List RuleL} (h : GoodB rs) {i : Nat} (hi : i < 8) : rs[i]? = some (at_ rs i) := by
  have hl : i < rs.length := by rw [h.len]; exact hi
  unfold at_
  rw [List.getElem?_eq_getElem hl]
  rfl
theorem GoodB.six {rs : List RuleL} (h : GoodB rs) {i : Nat} (hi : i < 8) : (at_ rs i).length ≤ 6 := (h.good _ (List.mem_of_getElem? (h.get hi))).1
def passBy (S : BoxS) : BoxS × ToldS := if S.ajar = true then letTake none (S, T0) else (S, T0)
def dayF (d : Int) (rs : List RuleL) (S : BoxS) : BoxS × ToldS :=
  match S.age with
  | none => (S, T0)
  | some a => if a + 1 = d then carry (at_ rs 6) "late" ({ S with age := some (a + 1) }, T0) else ({ S with age := some (a + 1) }, T0)
def powerF (rs : List RuleL) (S : BoxS) : BoxS × ToldS := carry (at_ rs 7) "power" (S, T0)
def layIn (p : Int) (l : Bool) (x : BoxS × ToldS) : BoxS × ToldS :=
  if l = true ∧ x.1.ajar = true then ({ x.1 with inside := x.1.inside ++ [p] }, { x.2 with wrongs := if x.1.inside.isEmpty = true then x.2.wrongs else x.2.wrongs ++ [("two" : Str)] }) else x
def bringF (rs : List RuleL) (p : Int) (l s : Bool) (S : BoxS) : BoxS × ToldS :=
  if S.tf = "free" then goAway s "laid" "left" (at_ rs 1) (at_ rs 2) (layIn p l (carry (at_ rs 0) "given" ({ S with ajar := true, age := some 0, last := some p }, { T0 with opened := true }))) else (S, T0)
section
variable {P : Program} {w : World} {K : PySem.W.Frag} {mg : Str → Option Value} {base : Heap}
def sp_Box_pass_by (K : PySem.W.Frag) : Sp := fun vs H Q _ => ∃ (H0 : Hp) (b : Addr) (S : BoxS) (n : Nat), vs = [.ref b] ∧ Bx K H0 H b S ∧ Bd n (S, T0) ∧ n < 900000 ∧ ∀ H' t, BTx K H0 H' b t (passBy S) → Q (.ref t) H'
set_option maxHeartbeats 2000000 in
theorem ok_Box_pass_by (T : Txt K mg) {fd : FuncData} (F : FunD K d_Box_pass_by.name d_Box_pass_by.qual d_Box_pass_by.params d_Box_pass_by.body d_Box_pass_by.scope (d_Box_pass_by.dvs K) (d_Box_pass_by.kws K) (He.fAd K d_Box_pass_by.at_) fd) : FnOk P w K mg base C8.CX0 3 (He.fAd K d_Box_pass_by.at_) fd ["self"] (sp_Box_pass_by K) := by
  have c_Box_let_take := c_Box_let_take (P := P) (w := w) (base := base) T
  have c_Told_init := c_Told_init (P := P) (w := w) (base := base) T
  refine F.ok sc_Box_pass_by (fun vs H Q E h => ?_) (fun cdv A outer s H vs Q E hr h => ?_)
  · obtain ⟨H0, b, S, n, rfl, _⟩ := h
    rfl
  · have hu := L2.hu_of hr
    obtain ⟨H0, b, S, n, rfl, ⟨dx, li, dv, ds, dr, hB⟩, bd, hn, q⟩ := h
    refine ⟨_, (PSs.nox ((pss_cons (ps_set (i := 1) sc_Box_pass_by.nd rfl (by first | exact Or.inl rfl | exact Or.inr rfl) (My.pe_mk0 c_Told_init hr (by decide) rfl))
  (pss_cons (ps_if (pt_val (My.pe_fldK (K := K) rfl (pv 0) rfl))
  (pss_one (ps_expr (C8.pe_mt c_Box_let_take hr (by decide) (pv 0) (pa_cons pe_non (pa_cons (pv 1) pa_nil)))))
  pss_nil)
  (pss_one (ps_ret (pv 1))))))), ?_⟩
    intro t dt nt ndt nex
    refine ⟨t, dt, rfl, upd_same, fun H1 ll lg lw lm bt nd new h1 h2 h3 h4 h5 => ⟨rfl, ?_⟩⟩
    have h := mkBT hB nt ndt nex bt nd new h1 h2 h3 h4 h5
    refine ⟨_, rfl, b, _, dx, _, _, rfl, h.hb, T.cl_Box, T.no_Box_ajar, rfl, _, rfl, ?_⟩
    unfold passBy at q
    cases c : S.ajar with
    | false =>
      rw [if_neg (by rw [c]; exact Bool.false_ne_true)] at q
      exact ⟨_, rfl, q _ _ ⟨dx, li, dv, ds, dr, dt, _, ll, lg, lw, lm, h⟩⟩
    | true =>
      rw [if_pos c] at q
      exact ⟨_, rfl, b, dx, _, rfl, h.hb, rfl, _, rfl, H0, b, t, none, (S, T0), n, rfl, ⟨dx, li, dv, ds, dr, dt, _, ll, lg, lw, lm, h⟩, bd, by omega, fun H2 hx => ⟨_, rfl, q _ _ hx⟩⟩
theorem c_Box_pass_by (T : Txt K mg) : C8.Met P w K mg base 3 (He.ga K "Box") "pass_by" (sp_Box_pass_by K) [] := by
  obtain ⟨fd, F⟩ := T.f_Box_pass_by
  exact ⟨_, fd, _, _, T.cl_Box, T.m_Box_pass_by, ok_Box_pass_by T F, F.bindsN (fun _ _ _ _ _ _ us hl => match us, hl with | [_], _ => rfl), .nil⟩
def sp_Box_power (K : PySem.W.Frag) : Sp := fun vs H Q _ => ∃ (H0 : Hp) (b k : Addr) (d : Int) (rs : List RuleL) (S : BoxS) (n : Nat), vs = [.ref b, .ref k] ∧ Bx K H0 H b S ∧ BookAt K H0 k d rs ∧ GoodB rs ∧ Bd n (S, T0) ∧ n < 900000 ∧ ∀ H' t, BTx K H0 H' b t (powerF rs S) → Q (.ref t) H'
set_option maxHeartbeats 2000000 in
theorem ok_Box_power (T : Txt K mg) {fd : FuncData} (F : FunD K d_Box_power.name d_Box_power.qual d_Box_power.params d_Box_power.body d_Box_power.scope (d_Box_power.dvs K) (d_Box_power.kws K) (He.fAd K d_Box_power.at_) fd) : FnOk P w K mg base C8.CX0 4 (He.fAd K d_Box_power.at_) fd ["self", "book"] (sp_Box_power K) := by
  have c_Box_carry_out := c_Box_carry_out (P := P) (w := w) (base := base) T
  have c_Told_init := c_Told_init (P := P) (w := w) (base := base) T
  refine F.ok sc_Box_power (fun vs H Q E h => ?_) (fun cdv A outer s H vs Q E hr h => ?_)
  · obtain ⟨H0, b, k, d, rs, S, n, rfl, _⟩ := h
    rfl
  · have hu := L2.hu_of hr
    obtain ⟨H0, b, k, d, rs, S, n, rfl, ⟨dx, li, dv, ds, dr, hB⟩, hk, hg, bd, hn, q⟩ := h
    refine ⟨_, (PSs.nox ((pss_cons (ps_set (i := 2) sc_Box_power.nd rfl (by first | exact Or.inl rfl | exact Or.inr rfl) (My.pe_mk0 c_Told_init hr (by decide) rfl))
  (pss_cons (ps_expr (C8.pe_mt c_Box_carry_out hr (by decide) (pv 0) (pa_cons (pv 1) (pa_cons pe_str (pa_cons (pv 2) pa_nil)))))
  (pss_one (ps_ret (pv 2))))))), ?_⟩
    intro t dt nt ndt nex
    refine ⟨t, dt, rfl, upd_same, fun H1 ll lg lw lm bt nd new h1 h2 h3 h4 h5 => ⟨rfl, ?_⟩⟩
    have h := mkBT hB nt ndt nex bt nd new h1 h2 h3 h4 h5
    exact ⟨_, rfl, b, dx, _, rfl, h.hb, rfl, _, rfl, _, rfl, H0, b, t, k, "power", 7, _, d, rs, (S, T0), n, rfl, ⟨dx, li, dv, ds, dr, dt, _, ll, lg, lw, lm, h⟩, hk, rfl, hg.get (by decide), hg.six (by decide), bd, by omega, fun H2 hx => ⟨_, rfl, q _ _ hx⟩⟩
theorem c_Box_power (T : Txt K mg) : C8.Met P w K mg base 4 (He.ga K "Box") "power" (sp_Box_power K) [] := by
  obtain ⟨fd, F⟩ := T.f_Box_power
  exact ⟨_, fd, _, _, T.cl_Box, T.m_Box_power, ok_Box_power T F, F.bindsN (fun _ _ _ _ _ _ us hl => match us, hl with | [_, _], _ => rfl), .nil⟩
def sp_Box_day (K : PySem.W.Frag) : Sp := fun vs H Q _ => ∃ (H0 : Hp) (b k : Addr) (d : Int) (rs : List RuleL) (S : BoxS) (n : Nat), vs = [.ref b, .ref k] ∧ Bx K H0 H b S ∧ BookAt K H0 k d rs ∧ GoodB rs ∧ Bd n (S, T0) ∧ n < 900000 ∧ ∀ H' t, BTx K H0 H' b t (dayF d rs S) → Q (.ref t) H'
set_option maxHeartbeats 2000000 in
theorem ok_Box_day (T : Txt K mg) {fd : FuncData} (F : FunD K d_Box_day.name d_Box_day.qual d_Box_day.params d_Box_day.body d_Box_day.scope (d_Box_day.dvs K) (d_Box_day.kws K) (He.fAd K d_Box_day.at_) fd) : FnOk P w K mg base C8.CX0 4 (He.fAd K d_Box_day.at_) fd ["self", "book"] (sp_Box_day K) := by
  have c_Book_days := c_Book_days (P := P) (w := w) (base := base) T
  have c_Box_carry_out := c_Box_carry_out (P := P) (w := w) (base := base) T
  have c_Told_init := c_Told_init (P := P) (w := w) (base := base) T
  refine F.ok sc_Box_day (fun vs H Q E h => ?_) (fun cdv A outer s H vs Q E hr h => ?_)
  · obtain ⟨H0, b, k, d, rs, S, n, rfl, _⟩ := h
    rfl
  · have hu := L2.hu_of hr
    obtain ⟨H0, b, k, d, rs, S, n, rfl, ⟨dx, li, dv, ds, dr, hB⟩, hk, hg, bd, hn, q⟩ := h
    refine ⟨_, (PSs.nox ((pss_cons (ps_set (i := 2) sc_Box_day.nd rfl (by first | exact Or.inl rfl | exact Or.inr rfl) (My.pe_mk0 c_Told_init hr (by decide) rfl))
  (pss_cons (ps_if (pt_cmpR op_notN (My.pe_fldK (K := K) rfl (pv 0) rfl) pe_non (nomark _))
  (pss_cons (ps_fldaug (pv 0) pe_int in_add)
  (pss_one (ps_if (pt_cmpR op_eq (My.pe_fldK (K := K) rfl (pv 0) rfl) (C8.pe_mt0 c_Book_days hr (by decide) (pv 1)) (nomark _))
  (pss_one (ps_expr (C8.pe_mt c_Box_carry_out hr (by decide) (pv 0) (pa_cons (pv 1) (pa_cons pe_str (pa_cons (pv 2) pa_nil))))))
  pss_nil)))
  pss_nil)
  (pss_one (ps_ret (pv 2))))))), ?_⟩
    intro t dt nt ndt nex
    refine ⟨t, dt, rfl, upd_same, fun H1 ll lg lw lm bt nd new h1 h2 h3 h4 h5 => ⟨rfl, ?_⟩⟩
    have h := mkBT hB nt ndt nex bt nd new h1 h2 h3 h4 h5
    refine ⟨_, rfl, b, _, dx, _, oV S.age, rfl, h.hb, T.cl_Box, T.no_Box_age, rfl, rfl, _, rfl, ?_⟩
    unfold dayF at q
    cases c : S.age with
    | none =>
      simp only [c] at q
      exact ⟨_, rfl, q _ _ ⟨dx, li, dv, ds, dr, dt, _, ll, lg, lw, lm, h⟩⟩
    | some a =>
      simp only [c] at q
      refine ⟨_, rfl, b, _, dx, _, oV S.age, rfl, h.hb, T.cl_Box, T.no_Box_age, rfl, ?_⟩
      rw [c]
      have h2 := h.set_b (S' := { S with age := some (a + 1) }) rfl rfl rfl rfl
      refine ⟨_, _, rfl, rfl, dx, _, h.hb, (by show 8 < 1000; decide), ?_⟩
      have hx2 : BTx K H0 _ b t ({ S with age := some (a + 1) }, T0) := ⟨dx, li, dv, ds, dr, dt, _, ll, lg, lw, lm, h2⟩
      have hk2 := hk.same hx2.same
      obtain ⟨dk, tk, ak, hkb, _⟩ := id hk2
      refine ⟨_, rfl, b, _, dx, _, V.int (a + 1), rfl, h2.hb, T.cl_Box, T.no_Box_age, rfl, _, rfl, k, dk, _, rfl, hkb, rfl, k, d, rs, rfl, hk2, rfl, _, rfl, ?_⟩
      by_cases e : a + 1 = d
      · rw [show decide (V.int (a + 1) = V.int d) = true from decide_eq_true (congrArg V.int e)]
        rw [if_pos e] at q
        exact ⟨_, rfl, b, dx, _, rfl, h2.hb, rfl, _, rfl, _, rfl, H0, b, t, k, "late", 6, _, d, rs, _, n, rfl, hx2, hk, rfl, hg.get (by decide), hg.six (by decide), ⟨bd.i, bd.v, bd.s, bd.r, bd.l, bd.w, bd.m⟩, by omega, fun H2 hx => ⟨_, rfl, q _ _ hx⟩⟩
      · rw [show decide (V.int (a + 1) = V.int d) = false from decide_eq_false (fun z => e (V.int.inj z))]
        rw [if_neg e] at q
        exact ⟨_, rfl, q _ _ hx2⟩
theorem c_Box_day (T : Txt K mg) : C8.Met P w K mg base 4 (He.ga K "Box") "day" (sp_Box_day K) [] := by
  obtain ⟨fd, F⟩ := T.f_Box_day
  exact ⟨_, fd, _, _, T.cl_Box, T.m_Box_day, ok_Box_day T F, F.bindsN (fun _ _ _ _ _ _ us hl => match us, hl with | [_, _], _ => rfl), .nil⟩
def sp_Box_bring (K : PySem.W.Frag) : Sp := fun vs H Q _ => ∃ (H0 : Hp) (b k : Addr) (p : Int) (l s : Bool) (d : Int) (rs : List RuleL) (S : BoxS) (n : Nat), vs = [.ref b, .ref k, .int p, .bl l, .bl s] ∧ Bx K H0 H b S ∧ BookAt K H0 k d rs ∧ GoodB rs ∧ Bd n (S, T0) ∧ n < 900000 ∧ ∀ H' t, BTx K H0 H' b t (bringF rs p l s S) → Q (.ref t) H'
theorem Bd.lay {n : Nat} {x : BoxS × ToldS} (h : Bd n x) {p : Int} {l : Bool} : Bd (n + 1) (layIn p l x) := by
  have h1 := h.mono (Nat.le_succ n)
  unfold layIn
  split
  · refine ⟨?_, h1.v, h1.s, h1.r, h1.l, ?_, h1.m⟩
    · show (x.1.inside ++ [p]).length ≤ n + 1
      rw [List.length_append]
      exact Nat.succ_le_succ h.i
    · show (if x.1.inside.isEmpty = true then x.2.wrongs else x.2.wrongs ++ [("two" : Str)]).length ≤ n + 1
      split
      · exact h1.w
      · rw [List.length_append]
        exact Nat.succ_le_succ h.w
  · exact h1
set_option maxHeartbeats 2000000 in
theorem ok_Box_bring (T : Txt K mg) {fd : FuncData} (F : FunD K d_Box_bring.name d_Box_bring.qual d_Box_bring.params d_Box_bring.body d_Box_bring.scope (d_Box_bring.dvs K) (d_Box_bring.kws K) (He.fAd K d_Box_bring.at_) fd) : FnOk P w K mg base C8.CX0 5 (He.fAd K d_Box_bring.at_) fd ["self", "book", "parcel", "lays", "shuts"] (sp_Box_bring K) := by
  have c_Box_go_away := c_Box_go_away (P := P) (w := w) (base := base) T
  have c_Box_carry_out := c_Box_carry_out (P := P) (w := w) (base := base) T
  have c_Told_init := c_Told_init (P := P) (w := w) (base := base) T
  refine F.ok sc_Box_bring (fun vs H Q E h => ?_) (fun cdv A outer s H vs Q E hr h => ?_)
  · obtain ⟨H0, b, k, p, l, s1, d, rs, S, n, rfl, _⟩ := h
    rfl
  · have hu := L2.hu_of hr
    obtain ⟨H0, b, k, p, l, s1, d, rs, S, n, rfl, ⟨dx, li, dv, ds, dr, hB⟩, hk, hg, bd, hn, q⟩ := h
    refine ⟨_, (PSs.nox ((pss_cons (ps_set (i := 5) sc_Box_bring.nd rfl (by first | exact Or.inl rfl | exact Or.inr rfl) (My.pe_mk0 c_Told_init hr (by decide) rfl))
  (pss_cons (ps_if (pt_cmpR op_ne (My.pe_fldK (K := K) rfl (pv 0) rfl) pe_str (nomark _))
  (pss_one (ps_ret (pv 5)))
  pss_nil)
  (pss_cons (ps_fld (pv 5) pe_bl rfl)
  (pss_cons (ps_fld (pv 0) pe_bl rfl)
  (pss_cons (ps_fld (pv 0) pe_int rfl)
  (pss_cons (ps_fld (pv 0) (pv 2) rfl)
  (pss_cons (ps_expr (C8.pe_mt c_Box_carry_out hr (by decide) (pv 0) (pa_cons (pv 1) (pa_cons pe_str (pa_cons (pv 5) pa_nil)))))
  (pss_cons (ps_if (PW.pt (pw_and (pt_val (pv 3)) (pw_and1 (pt_val (My.pe_fldK (K := K) rfl (pv 0) rfl)))))
  (pss_cons (ps_if (My.pt_truthK (K := K) rfl (My.pe_fldK (K := K) rfl (pv 0) rfl) (by intro _; rfl))
  (pss_one (ps_expr (My.pe_bmK (K := K) rfl PySem.F.plainAttrs_list PySem.F.slot_list_append PySem.F.type_list_append mt_append (My.pe_fldK (K := K) rfl (pv 5) rfl) (pa_cons pe_str pa_nil))))
  pss_nil)
  (pss_cons (ps_expr (My.pe_bmK (K := K) rfl PySem.F.plainAttrs_list PySem.F.slot_list_append PySem.F.type_list_append mt_append (My.pe_fldK (K := K) rfl (pv 0) rfl) (pa_cons (pv 2) pa_nil)))
  (pss_one (ps_fld (pv 5) pe_bl rfl))))
  pss_nil)
  (pss_cons (ps_expr (C8.pe_mt c_Box_go_away hr (by decide) (pv 0) (pa_cons (pv 1) (pa_cons (pv 4) (pa_cons (pe_tup (pa_cons pe_str (pa_cons pe_str pa_nil))) (pa_cons (pv 5) pa_nil))))))
  (pss_one (ps_ret (pv 5)))))))))))))), ?_⟩
    intro t dt nt ndt nex
    refine ⟨t, dt, rfl, upd_same, fun H1 ll lg lw lm bt nd new h1 h2 h3 h4 h5 => ⟨rfl, ?_⟩⟩
    have h := mkBT hB nt ndt nex bt nd new h1 h2 h3 h4 h5
    refine ⟨_, rfl, b, _, dx, _, _, rfl, h.hb, T.cl_Box, T.no_Box_taken_for, rfl, rfl, _, rfl, ?_⟩
    unfold bringF at q
    by_cases c : S.tf = "free"
    · rw [if_pos c] at q
      rw [show (!decide (V.str S.tf = V.str "free")) = false by rw [str_eqT c]; rfl]
      -- what is left behind the laying
      have last : ∀ (H2 : Hp) (x : BoxS × ToldS) (m : Nat), BTx K H0 H2 b t x → Bd m x → m < 950000 → (∀ H' t, BTx K H0 H' b t (goAway s1 "laid" "left" (at_ rs 1) (at_ rs 2) x) → Q (.ref t) H') →
          tSeq (tDrop (tMeth (He.ga K "Box") "_go_away" (sp_Box_go_away K) [] C8.E0 (tVar 0) (tCons (tVar 1) (tCons (tVar 4) (tCons (tTup (tCons (tC (.str "laid")) (tCons (tC (.str "left")) tNil))) (tCons (tVar 5) tNil)))))) (tRet (tVar 5))
            { nx := fun _ H' => Q .non H', rt := Q } [some (.ref b), some (.ref k), some (.int p), some (.bl l), some (.bl s1), some (.ref t)] H2 := by
        intro H2 x m hx bdx hm q2
        obtain ⟨dx2, li2, dv2, ds2, dr2, dt2, yb2, ll2, lg2, lw2, lm2, h2⟩ := id hx
        refine ⟨_, rfl, b, dx2, _, rfl, h2.hb, rfl, _, rfl, _, rfl, by show 2 ≤ sizeLine; decide, fun g hgn => ⟨_, rfl, ?_⟩⟩
        exact ⟨H0, b, t, k, g, s1, "laid", "left", 1, 2, _, _, d, rs, x, m, rfl, tupN hx hgn, hk, SqT.of upd_same, rfl, hg.get (by decide), hg.six (by decide), rfl, hg.get (by decide), hg.six (by decide), bdx, by omega, fun H3 hx3 => ⟨_, rfl, q2 _ _ hx3⟩⟩
      refine ⟨_, rfl, t, _, dt, _, rfl, h.ht, T.cl_Told, T.no_Told_opened, (by show 6 < 1000; decide), ?_⟩
      have g1 := h.set_t (T' := { T0 with opened := true }) rfl rfl rfl rfl
      refine ⟨_, rfl, b, _, dx, _, rfl, g1.hb, T.cl_Box, T.no_Box_ajar, (by show 8 < 1000; decide), ?_⟩
      have g2 := g1.set_b (S' := { S with ajar := true }) rfl rfl rfl rfl
      refine ⟨_, rfl, b, _, dx, _, rfl, g2.hb, T.cl_Box, T.no_Box_age, (by show 8 < 1000; decide), ?_⟩
      have g3 := g2.set_b (S' := { S with ajar := true, age := some 0 }) rfl rfl rfl rfl
      refine ⟨_, rfl, _, rfl, b, _, dx, _, rfl, g3.hb, T.cl_Box, T.no_Box_last, (by show 8 < 1000; decide), ?_⟩
      have g4 := g3.set_b (S' := { S with ajar := true, age := some 0, last := some p }) rfl rfl rfl rfl
      have hx4 : BTx K H0 _ b t ({ S with ajar := true, age := some 0, last := some p }, { T0 with opened := true }) := ⟨dx, li, dv, ds, dr, dt, _, ll, lg, lw, lm, g4⟩
      have bd4 : Bd n ({ S with ajar := true, age := some 0, last := some p }, { T0 with opened := true }) := ⟨bd.i, bd.v, bd.s, bd.r, bd.l, bd.w, bd.m⟩
      have bd5 := (bd4.carry (at_ rs 0) "given").mono (m := n + 7) (by have := hg.six (i := 0) (by decide); omega)
      refine ⟨_, rfl, b, dx, _, rfl, g4.hb, rfl, _, rfl, _, rfl, H0, b, t, k, "given", 0, _, d, rs, _, n, rfl, hx4, hk, rfl, hg.get (by decide), hg.six (by decide), bd4, by omega, fun H2 hx => ?_⟩
      have bd6 := bd5.lay (p := p) (l := l)
      generalize hy : carry (at_ rs 0) "given" ({ S with ajar := true, age := some 0, last := some p }, { T0 with opened := true }) = y at hx q bd5 bd6
      obtain ⟨Y, U⟩ := y
      have q' := fun (e : layIn p l (Y, U) = layIn p l (Y, U)) => q
      refine ⟨_, rfl, _, rfl, ?_⟩
      cases l with
      | false =>
        have e0 : layIn p false (Y, U) = (Y, U) := by
          unfold layIn
          rw [if_neg (fun z => Bool.false_ne_true z.1)]
        rw [e0] at q
        exact last _ _ _ hx bd5 (by omega) q
      | true =>
        obtain ⟨dx2, li2, dv2, ds2, dr2, dt2, yb2, ll2, lg2, lw2, lm2, h2⟩ := id hx
        refine ⟨_, rfl, b, _, dx2, _, _, rfl, h2.hb, T.cl_Box, T.no_Box_ajar, rfl, _, rfl, ?_⟩
        cases ca : Y.ajar with
        | false =>
          have e0 : layIn p true (Y, U) = (Y, U) := by
            unfold layIn
            rw [if_neg (fun z => by have := z.2; rw [show (Y, U).1.ajar = Y.ajar from rfl, ca] at this; exact Bool.false_ne_true this)]
          rw [e0] at q
          exact last _ _ _ hx bd5 (by omega) q
        | true =>
          have e0 : layIn p true (Y, U) = ({ Y with inside := Y.inside ++ [p] }, { U with wrongs := if Y.inside.isEmpty = true then U.wrongs else U.wrongs ++ [("two" : Str)] }) := by
            unfold layIn
            rw [if_pos ⟨rfl, ca⟩]
          rw [e0] at q bd6
          refine ⟨_, rfl, b, _, dx2, _, _, rfl, h2.hb, T.cl_Box, T.no_Box_inside, rfl, !(Y.inside.map V.int).isEmpty, .inl ⟨_, SqL.of h2.hli, rfl⟩, ?_⟩
          rw [List.isEmpty_map]
          have zi : Y.inside.length ≤ n + 7 := bd5.i
          have zw : U.wrongs.length ≤ n + 7 := bd5.w
          have ei : Y.inside.map V.int ++ [V.int p] = (Y.inside ++ [p]).map V.int := by rw [List.map_append]; rfl
          cases ce : Y.inside.isEmpty with
          | true =>
            rw [ce, if_pos rfl] at q bd6
            refine ⟨_, rfl, b, _, dx2, _, _, rfl, h2.hb, T.cl_Box, T.no_Box_inside, rfl, .inl ⟨rfl, _, SqL.of h2.hli⟩, _, rfl, li2, _, _, rfl, rfl, h2.hli, by rw [List.length_map]; exact lt_line (by show Y.inside.length ≤ 1000000; omega), ?_⟩
            rw [ei]
            have h3 := h2.set_li (S' := { Y with inside := Y.inside ++ [p] }) rfl
            refine ⟨_, rfl, t, _, dt2, _, rfl, h3.ht, T.cl_Told, T.no_Told_lays, (by show 6 < 1000; decide), ?_⟩
            have hx5 : BTx K H0 _ b t ({ Y with inside := Y.inside ++ [p] }, U) := ⟨dx2, li2, dv2, ds2, dr2, dt2, _, ll2, lg2, lw2, lm2, h3.set_y true⟩
            exact last _ _ _ hx5 bd6 (by omega) q
          | false =>
            rw [ce, if_neg Bool.false_ne_true] at q bd6
            refine ⟨_, rfl, t, _, dt2, _, _, rfl, h2.ht, T.cl_Told, T.no_Told_wrongs, rfl, .inl ⟨rfl, _, SqL.of h2.hlw⟩, lw2, _, _, rfl, rfl, h2.hlw, by rw [List.length_map]; exact lt_line (by show U.wrongs.length ≤ 1000000; omega), ?_⟩
            have ew : U.wrongs.map V.str ++ [V.str "two"] = (U.wrongs ++ [("two" : Str)]).map V.str := by rw [List.map_append]; rfl
            have h3 := h2.set_lw (T' := { U with wrongs := U.wrongs ++ [("two" : Str)] }) rfl
            rw [← ew] at h3
            refine ⟨_, rfl, b, _, dx2, _, _, rfl, h3.hb, T.cl_Box, T.no_Box_inside, rfl, .inl ⟨rfl, _, SqL.of h3.hli⟩, _, rfl, li2, _, _, rfl, rfl, h3.hli, by rw [List.length_map]; exact lt_line (by show Y.inside.length ≤ 1000000; omega), ?_⟩
            have h4 := h3.set_li (S' := { Y with inside := Y.inside ++ [p] }) rfl
            rw [← ei] at h4
            refine ⟨_, rfl, t, _, dt2, _, rfl, h4.ht, T.cl_Told, T.no_Told_lays, (by show 6 < 1000; decide), ?_⟩
            have hx5 : BTx K H0 _ b t ({ Y with inside := Y.inside ++ [p] }, { U with wrongs := U.wrongs ++ [("two" : Str)] }) := ⟨dx2, li2, dv2, ds2, dr2, dt2, _, ll2, lg2, lw2, lm2, h4.set_y true⟩
            exact last _ _ _ hx5 bd6 (by omega) q
    · rw [if_neg c] at q
      rw [show (!decide (V.str S.tf = V.str "free")) = true by rw [str_eqF c]; rfl]
      exact ⟨_, rfl, q _ _ ⟨dx, li, dv, ds, dr, dt, _, ll, lg, lw, lm, h⟩⟩
theorem c_Box_bring (T : Txt K mg) : C8.Met P w K mg base 5 (He.ga K "Box") "bring" (sp_Box_bring K) [] := by
  obtain ⟨fd, F⟩ := T.f_Box_bring
  exact ⟨_, fd, _, _, T.cl_Box, T.m_Box_bring, ok_Box_bring T F, F.bindsN (fun _ _ _ _ _ _ us hl => match us, hl with | [_, _, _, _, _], _ => rfl), .nil⟩
end
end K32

namespace K32
open PySem PySem.Spec PyProof.Rows L2 My
def takeIf (p : Int) (t : Bool) (x : BoxS × ToldS) : BoxS × ToldS := if t = true ∧ x.1.ajar = true then letTake (some p) x else x
def addW (c : Bool) (wd : Str) (x : BoxS × ToldS) : BoxS × ToldS := if c = true then (x.1, { x.2 with wrongs := x.2.wrongs ++ [wd] }) else x
def missF (p : Int) (S : BoxS) : Bool := decide (p ∉ S.inside) && decide (p ∉ S.served)
def codeF (rs : List RuleL) (p : Int) (t s : Bool) (S : BoxS) : BoxS × ToldS :=
  if p ∈ S.valid then goAway s "taken" "gone" (at_ rs 4) (at_ rs 5) (addW (missF p S) "empty" (takeIf p t (carry (at_ rs 3) "opened" ({ S with ajar := true }, { T0 with opened := true }))))
  else addW (decide (p ∈ S.inside) && decide (p ∈ S.sent)) "refused" (S, T0)
theorem Bd.tk {n : Nat} {x : BoxS × ToldS} (h : Bd n x) {p : Int} {t : Bool} : Bd (n + 1) (takeIf p t x) := by
  unfold takeIf
  split
  · exact h.take _
  · exact h.mono (Nat.le_succ n)
theorem Bd.aw {n : Nat} {x : BoxS × ToldS} (h : Bd n x) {c : Bool} {wd : Str} : Bd (n + 1) (addW c wd x) := by
  have h1 := h.mono (Nat.le_succ n)
  unfold addW
  split
  · refine ⟨h1.i, h1.v, h1.s, h1.r, h1.l, ?_, h1.m⟩
    show (x.2.wrongs ++ [wd]).length ≤ n + 1
    rw [List.length_append]
    exact Nat.succ_le_succ h.w
  · exact h1
section
variable {P : Program} {w : World} {K : PySem.W.Frag} {mg : Str → Option Value} {base : Heap}
def sp_Box_code (K : PySem.W.Frag) : Sp := fun vs H Q _ => ∃ (H0 : Hp) (b k : Addr) (p : Int) (l s : Bool) (d : Int) (rs : List RuleL) (S : BoxS) (n : Nat), vs = [.ref b, .ref k, .int p, .bl l, .bl s] ∧ Bx K H0 H b S ∧ BookAt K H0 k d rs ∧ GoodB rs ∧ Bd n (S, T0) ∧ n < 900000 ∧ ∀ H' t, BTx K H0 H' b t (codeF rs p l s S) → Q (.ref t) H'
set_option maxHeartbeats 2000000 in
theorem ok_Box_code (T : Txt K mg) {fd : FuncData} (F : FunD K d_Box_code.name d_Box_code.qual d_Box_code.params d_Box_code.body d_Box_code.scope (d_Box_code.dvs K) (d_Box_code.kws K) (He.fAd K d_Box_code.at_) fd) : FnOk P w K mg base C8.CX0 5 (He.fAd K d_Box_code.at_) fd ["self", "book", "parcel", "takes", "shuts"] (sp_Box_code K) := by
  have c_Box_go_away := c_Box_go_away (P := P) (w := w) (base := base) T
  have c_Box_let_take := c_Box_let_take (P := P) (w := w) (base := base) T
  have c_Box_carry_out := c_Box_carry_out (P := P) (w := w) (base := base) T
  have c_Told_init := c_Told_init (P := P) (w := w) (base := base) T
  refine F.ok sc_Box_code (fun vs H Q E h => ?_) (fun cdv A outer s H vs Q E hr h => ?_)
  · obtain ⟨H0, b, k, p, l, s1, d, rs, S, n, rfl, _⟩ := h
    rfl
  · have hu := L2.hu_of hr
    obtain ⟨H0, b, k, p, l, s1, d, rs, S, n, rfl, ⟨dx, li, dv, ds, dr, hB⟩, hk, hg, bd, hn, q⟩ := h
    refine ⟨_, (PSs.nox ((pss_cons (ps_set (i := 5) sc_Box_code.nd rfl (by first | exact Or.inl rfl | exact Or.inr rfl) (My.pe_mk0 c_Told_init hr (by decide) rfl))
  (pss_cons (ps_if (pt_cmp (pc_dnotin hu (pv 2) (My.pe_fldK (K := K) rfl (pv 0) rfl)))
  (pss_cons (ps_if (PW.pt (pw_and (pt_cmpR (My.in_seqK (K := K) rfl) (pv 2) (My.pe_fldK (K := K) rfl (pv 0) rfl) (by rfl)) (pw_and1 (pt_cmp (pc_din hu (pv 2) (My.pe_fldK (K := K) rfl (pv 0) rfl))))))
  (pss_one (ps_expr (My.pe_bmK (K := K) rfl PySem.F.plainAttrs_list PySem.F.slot_list_append PySem.F.type_list_append mt_append (My.pe_fldK (K := K) rfl (pv 5) rfl) (pa_cons pe_str pa_nil))))
  pss_nil)
  (pss_one (ps_ret (pv 5))))
  pss_nil)
  (pss_cons (ps_set (i := 6) sc_Box_code.nd rfl (by first | exact Or.inl rfl | exact Or.inr rfl) (pe_and (pe_cmpR (My.notIn_seqK (K := K) rfl) (pv 2) (My.pe_fldK (K := K) rfl (pv 0) rfl) (by rfl)) (pe_one (pe_cmp (pc_dnotin hu (pv 2) (My.pe_fldK (K := K) rfl (pv 0) rfl)) rfl))))
  (pss_cons (ps_fld (pv 5) pe_bl rfl)
  (pss_cons (ps_fld (pv 0) pe_bl rfl)
  (pss_cons (ps_expr (C8.pe_mt c_Box_carry_out hr (by decide) (pv 0) (pa_cons (pv 1) (pa_cons pe_str (pa_cons (pv 5) pa_nil)))))
  (pss_cons (ps_if (PW.pt (pw_and (pt_val (pv 3)) (pw_and1 (pt_val (My.pe_fldK (K := K) rfl (pv 0) rfl)))))
  (pss_one (ps_expr (C8.pe_mt c_Box_let_take hr (by decide) (pv 0) (pa_cons (pv 2) (pa_cons (pv 5) pa_nil)))))
  pss_nil)
  (pss_cons (ps_if (pt_val (pv 6))
  (pss_one (ps_expr (My.pe_bmK (K := K) rfl PySem.F.plainAttrs_list PySem.F.slot_list_append PySem.F.type_list_append mt_append (My.pe_fldK (K := K) rfl (pv 5) rfl) (pa_cons pe_str pa_nil))))
  pss_nil)
  (pss_cons (ps_expr (C8.pe_mt c_Box_go_away hr (by decide) (pv 0) (pa_cons (pv 1) (pa_cons (pv 4) (pa_cons (pe_tup (pa_cons pe_str (pa_cons pe_str pa_nil))) (pa_cons (pv 5) pa_nil))))))
  (pss_one (ps_ret (pv 5)))))))))))))), ?_⟩
    intro t dt nt ndt nex
    refine ⟨t, dt, rfl, upd_same, fun H1 ll lg lw lm bt nd new h1 h2 h3 h4 h5 => ⟨rfl, ?_⟩⟩
    have h := mkBT hB nt ndt nex bt nd new h1 h2 h3 h4 h5
    refine ⟨_, rfl, _, rfl, b, _, dx, _, _, rfl, h.hb, T.cl_Box, T.no_Box_valid, rfl, dv, _, rfl, DGet.k (k := Sum.inl p) h.hdv, _, rfl, ?_⟩
    rw [valV_kvT]
    have sent_in : ∀ (A B : Prop) (x : Bool), (x = true → A) → (x = false → B) → if x = true then A else B := fun A B x ha hb => by
      cases x with
      | true => exact ha rfl
      | false => exact hb rfl
    unfold codeF at q
    by_cases c : p ∈ S.valid
    · rw [if_pos c] at q
      rw [decide_eq_true c]
      -- behind the taking: the word, the going away
      have last : ∀ (H2 : Hp) (x : BoxS × ToldS) (m : Nat), BTx K H0 H2 b t x → Bd m x → m < 950000 → (∀ H' t, BTx K H0 H' b t (goAway s1 "taken" "gone" (at_ rs 4) (at_ rs 5) x) → Q (.ref t) H') →
          tSeq (tDrop (tMeth (He.ga K "Box") "_go_away" (sp_Box_go_away K) [] C8.E0 (tVar 0) (tCons (tVar 1) (tCons (tVar 4) (tCons (tTup (tCons (tC (.str "taken")) (tCons (tC (.str "gone")) tNil))) (tCons (tVar 5) tNil)))))) (tRet (tVar 5))
            { nx := fun _ H' => Q .non H', rt := Q } [some (.ref b), some (.ref k), some (.int p), some (.bl l), some (.bl s1), some (.ref t), some (.bl (missF p S))] H2 := by
        intro H2 x m hx bdx hm q2
        obtain ⟨dx2, li2, dv2, ds2, dr2, dt2, yb2, ll2, lg2, lw2, lm2, h2⟩ := id hx
        refine ⟨_, rfl, b, dx2, _, rfl, h2.hb, rfl, _, rfl, _, rfl, by show 2 ≤ sizeLine; decide, fun g hgn => ⟨_, rfl, ?_⟩⟩
        exact ⟨H0, b, t, k, g, s1, "taken", "gone", 4, 5, _, _, d, rs, x, m, rfl, tupN hx hgn, hk, SqT.of upd_same, rfl, hg.get (by decide), hg.six (by decide), rfl, hg.get (by decide), hg.six (by decide), bdx, by omega, fun H3 hx3 => ⟨_, rfl, q2 _ _ hx3⟩⟩
      have last2 : ∀ (H2 : Hp) (x : BoxS × ToldS) (m : Nat), BTx K H0 H2 b t x → Bd m x → m < 940000 → (∀ H' t, BTx K H0 H' b t (goAway s1 "taken" "gone" (at_ rs 4) (at_ rs 5) (addW (missF p S) "empty" x)) → Q (.ref t) H') →
          tSeq (tIfS (tB (tVar 6)) (tDrop (tBM K "list" rAppend (tFld K (tVar 5) "wrongs") (tCons (tC (.str "empty")) tNil))) tNext) (tSeq (tDrop (tMeth (He.ga K "Box") "_go_away" (sp_Box_go_away K) [] C8.E0 (tVar 0) (tCons (tVar 1) (tCons (tVar 4) (tCons (tTup (tCons (tC (.str "taken")) (tCons (tC (.str "gone")) tNil))) (tCons (tVar 5) tNil)))))) (tRet (tVar 5)))
            { nx := fun _ H' => Q .non H', rt := Q } [some (.ref b), some (.ref k), some (.int p), some (.bl l), some (.bl s1), some (.ref t), some (.bl (missF p S))] H2 := by
        intro H2 x m hx bdx hm q2
        refine ⟨_, rfl, _, rfl, ?_⟩
        unfold addW at q2
        refine sent_in _ _ _ (fun e => ?_) (fun e => ?_)
        · rw [if_pos e] at q2
          obtain ⟨Y, U⟩ := x
          obtain ⟨dx2, li2, dv2, ds2, dr2, dt2, yb2, ll2, lg2, lw2, lm2, h2⟩ := id hx
          have zw : U.wrongs.length ≤ m := bdx.w
          refine ⟨_, rfl, t, _, dt2, _, _, rfl, h2.ht, T.cl_Told, T.no_Told_wrongs, rfl, .inl ⟨rfl, _, SqL.of h2.hlw⟩, lw2, _, _, rfl, rfl, h2.hlw, by rw [List.length_map]; exact lt_line (by show U.wrongs.length ≤ 1000000; omega), ?_⟩
          have ew : U.wrongs.map V.str ++ [V.str "empty"] = (U.wrongs ++ [("empty" : Str)]).map V.str := by rw [List.map_append]; rfl
          have h3 := h2.set_lw (T' := { U with wrongs := U.wrongs ++ [("empty" : Str)] }) rfl
          rw [← ew] at h3
          refine last _ _ (m + 1) ⟨dx2, li2, dv2, ds2, dr2, dt2, yb2, ll2, lg2, lw2, lm2, h3⟩ ?_ (by omega) q2
          have := bdx.aw (c := true) (wd := "empty")
          exact this
        · rw [if_neg (by rw [e]; exact Bool.false_ne_true)] at q2
          exact last _ _ _ hx bdx (by omega) q2
      refine ⟨_, rfl, _, rfl, b, _, dx, _, _, rfl, h.hb, T.cl_Box, T.no_Box_inside, rfl, li, _, rfl, .inl (SqL.of h.hli), rfl, all_flat_int _, _, rfl, ?_⟩
      rw [show (if true = true then !inV (.int p) (S.inside.map V.int) else inV (.int p) (S.inside.map V.int)) = decide (p ∉ S.inside) by rw [if_pos rfl, inV_int, ← decide_not]]
      -- missing stands in slot 6
      have mid : ∀ (tl : TS), (tl { nx := fun _ H' => Q .non H', rt := Q } [some (.ref b), some (.ref k), some (.int p), some (.bl l), some (.bl s1), some (.ref t), some (.bl (missF p S))] H1) →
          (if decide (p ∉ S.inside) = true then tOp rEq (tC .non) (tC .non) [] H1 (fun _ _ => True) else True) → True := fun _ _ _ => trivial
      have fin : tSeq (sFld K (tVar 5) (tC (.bl true)) "opened") (tSeq (sFld K (tVar 0) (tC (.bl true)) "ajar") (tSeq (tDrop (tMeth (He.ga K "Box") "_carry_out" (sp_Box_carry_out K) [] C8.E0 (tVar 0) (tCons (tVar 1) (tCons (tC (.str "opened")) (tCons (tVar 5) tNil)))))
          (tSeq (tIfS (tAnd (tB (tVar 3)) (tB (tFld K (tVar 0) "ajar"))) (tDrop (tMeth (He.ga K "Box") "_let_take" (sp_Box_let_take K) [] C8.E0 (tVar 0) (tCons (tVar 2) (tCons (tVar 5) tNil)))) tNext)
            (tSeq (tIfS (tB (tVar 6)) (tDrop (tBM K "list" rAppend (tFld K (tVar 5) "wrongs") (tCons (tC (.str "empty")) tNil))) tNext) (tSeq (tDrop (tMeth (He.ga K "Box") "_go_away" (sp_Box_go_away K) [] C8.E0 (tVar 0) (tCons (tVar 1) (tCons (tVar 4) (tCons (tTup (tCons (tC (.str "taken")) (tCons (tC (.str "gone")) tNil))) (tCons (tVar 5) tNil)))))) (tRet (tVar 5)))))))
          { nx := fun _ H' => Q .non H', rt := Q } [some (.ref b), some (.ref k), some (.int p), some (.bl l), some (.bl s1), some (.ref t), some (.bl (missF p S))] H1 := by
        refine ⟨_, rfl, t, _, dt, _, rfl, h.ht, T.cl_Told, T.no_Told_opened, (by show 6 < 1000; decide), ?_⟩
        have g1 := h.set_t (T' := { T0 with opened := true }) rfl rfl rfl rfl
        refine ⟨_, rfl, b, _, dx, _, rfl, g1.hb, T.cl_Box, T.no_Box_ajar, (by show 8 < 1000; decide), ?_⟩
        have g2 := g1.set_b (S' := { S with ajar := true }) rfl rfl rfl rfl
        have hx2 : BTx K H0 _ b t ({ S with ajar := true }, { T0 with opened := true }) := ⟨dx, li, dv, ds, dr, dt, _, ll, lg, lw, lm, g2⟩
        have bd2 : Bd n ({ S with ajar := true }, { T0 with opened := true }) := ⟨bd.i, bd.v, bd.s, bd.r, bd.l, bd.w, bd.m⟩
        have bd3 := (bd2.carry (at_ rs 3) "opened").mono (m := n + 7) (by have := hg.six (i := 3) (by decide); omega)
        refine ⟨_, rfl, b, dx, _, rfl, g2.hb, rfl, _, rfl, _, rfl, H0, b, t, k, "opened", 3, _, d, rs, _, n, rfl, hx2, hk, rfl, hg.get (by decide), hg.six (by decide), bd2, by omega, fun H2 hx => ?_⟩
        generalize hy : carry (at_ rs 3) "opened" ({ S with ajar := true }, { T0 with opened := true }) = y at hx q bd3
        obtain ⟨Y, U⟩ := y
        refine ⟨_, rfl, _, rfl, ?_⟩
        cases l with
        | false =>
          have e0 : takeIf p false (Y, U) = (Y, U) := by
            unfold takeIf
            rw [if_neg (fun z => Bool.false_ne_true z.1)]
          rw [e0] at q
          exact last2 _ _ _ hx bd3 (by omega) q
        | true =>
          obtain ⟨dx2, li2, dv2, ds2, dr2, dt2, yb2, ll2, lg2, lw2, lm2, h2⟩ := id hx
          refine ⟨_, rfl, b, _, dx2, _, _, rfl, h2.hb, T.cl_Box, T.no_Box_ajar, rfl, _, rfl, ?_⟩
          cases ca : Y.ajar with
          | false =>
            have e0 : takeIf p true (Y, U) = (Y, U) := by
              unfold takeIf
              rw [if_neg (fun z => by have := z.2; rw [show (Y, U).1.ajar = Y.ajar from rfl, ca] at this; exact Bool.false_ne_true this)]
            rw [e0] at q
            exact last2 _ _ _ hx bd3 (by omega) q
          | true =>
            have e0 : takeIf p true (Y, U) = letTake (some p) (Y, U) := by
              unfold takeIf
              rw [if_pos ⟨rfl, ca⟩]
            rw [e0] at q
            exact ⟨_, rfl, b, dx2, _, rfl, h2.hb, rfl, _, rfl, _, rfl, H0, b, t, some p, (Y, U), n + 7, rfl, hx, bd3, by omega, fun H3 hx3 => last2 _ _ (n + 8) hx3 (bd3.take _) (by omega) q⟩
      unfold missF at fin
      by_cases ci : p ∈ S.inside
      · rw [decide_eq_false (fun z => z ci)] at fin ⊢
        exact fin
      · rw [decide_eq_true ci] at fin ⊢
        refine ⟨_, rfl, _, rfl, b, _, dx, _, _, rfl, h.hb, T.cl_Box, T.no_Box_served, rfl, dr, _, rfl, DGet.k (k := Sum.inl p) h.hdr, ?_⟩
        rw [valV_kvT, ← decide_not]
        exact fin
    · rw [if_neg c] at q
      rw [decide_eq_false c]
      refine ⟨_, rfl, _, rfl, b, _, dx, _, _, rfl, h.hb, T.cl_Box, T.no_Box_inside, rfl, li, _, rfl, .inl (SqL.of h.hli), rfl, all_flat_int _, _, rfl, ?_⟩
      rw [show (if false = true then !inV (.int p) (S.inside.map V.int) else inV (.int p) (S.inside.map V.int)) = decide (p ∈ S.inside) by rw [if_neg Bool.false_ne_true, inV_int]]
      have hx : BTx K H0 H1 b t (S, T0) := ⟨dx, li, dv, ds, dr, dt, _, ll, lg, lw, lm, h⟩
      by_cases ci : p ∈ S.inside
      · rw [decide_eq_true ci]
        rw [decide_eq_true ci] at q
        refine ⟨_, rfl, _, rfl, b, _, dx, _, _, rfl, h.hb, T.cl_Box, T.no_Box_sent, rfl, ds, _, rfl, DGet.k (k := Sum.inl p) h.hds, _, rfl, ?_⟩
        rw [valV_kvT]
        by_cases cs : p ∈ S.sent
        · rw [decide_eq_true cs]
          rw [decide_eq_true cs] at q
          refine ⟨_, rfl, t, _, dt, _, _, rfl, h.ht, T.cl_Told, T.no_Told_wrongs, rfl, .inl ⟨rfl, _, SqL.of h.hlw⟩, lw, _, _, rfl, rfl, h.hlw, by show 0 < sizeLine; decide, ?_⟩
          have h3 := h.set_lw (T' := { T0 with wrongs := [("refused" : Str)] }) rfl
          exact ⟨_, rfl, q _ _ ⟨dx, li, dv, ds, dr, dt, _, ll, lg, lw, lm, h3⟩⟩
        · rw [decide_eq_false cs]
          rw [decide_eq_false cs] at q
          exact ⟨_, rfl, q _ _ hx⟩
      · rw [decide_eq_false ci]
        rw [decide_eq_false ci] at q
        exact ⟨_, rfl, q _ _ hx⟩
theorem c_Box_code (T : Txt K mg) : C8.Met P w K mg base 5 (He.ga K "Box") "code" (sp_Box_code K) [] := by
  obtain ⟨fd, F⟩ := T.f_Box_code
  exact ⟨_, fd, _, _, T.cl_Box, T.m_Box_code, ok_Box_code T F, F.bindsN (fun _ _ _ _ _ _ us hl => match us, hl with | [_, _, _, _, _], _ => rfl), .nil⟩
end
end K32

namespace K32
open PySem PySem.Spec PyProof.Rows L2 My
def doF (rs : List RuleL) (d : Int) (n : Int) (x : Deed) (S : BoxS) : BoxS × ToldS :=
  match x with
  | .bring l s => bringF rs n l s S
  | .code p t s => codeF rs p t s S
  | .pass => passBy S
  | .day => dayF d rs S
  | .power => powerF rs S
theorem Bd.self {n : Nat} {x : BoxS × ToldS} (h : Bd n x) : Bd n (x.1, T0) := ⟨h.i, h.v, h.s, h.r, Nat.zero_le _, Nat.zero_le _, Nat.zero_le _⟩
theorem Bd.doF {n : Nat} {S : BoxS} {rs : List RuleL} {d k : Int} {x : Deed} (hg : GoodB rs) (h : Bd n (S, T0)) : Bd (n + 16) (doF rs d k x S) := by
  have l6 := fun (i : Nat) (hi : i < 8) => hg.six (i := i) hi
  cases x with
  | bring l s =>
    show Bd (n + 16) (bringF rs k l s S)
    unfold bringF
    split
    · have b1 : Bd n ({ S with ajar := true, age := some 0, last := some k }, { T0 with opened := true }) := ⟨h.i, h.v, h.s, h.r, h.l, h.w, h.m⟩
      have b2 := (b1.carry (at_ rs 0) "given").mono (m := n + 7) (by have := l6 0 (by decide); omega)
      exact (((b2.lay (p := k) (l := l)).go (sh := s) (m1 := "laid") (m2 := "left") (l6 1 (by decide)) (l6 2 (by decide))).mono (by omega))
    · exact h.mono (by omega)
  | code p t s =>
    show Bd (n + 16) (codeF rs p t s S)
    unfold codeF
    split
    · have b1 : Bd n ({ S with ajar := true }, { T0 with opened := true }) := ⟨h.i, h.v, h.s, h.r, h.l, h.w, h.m⟩
      have b2 := (b1.carry (at_ rs 3) "opened").mono (m := n + 7) (by have := l6 3 (by decide); omega)
      exact ((((b2.tk (p := p) (t := t)).aw (c := missF p S) (wd := "empty")).go (sh := s) (m1 := "taken") (m2 := "gone") (l6 4 (by decide)) (l6 5 (by decide))).mono (by omega))
    · exact (h.aw).mono (by omega)
  | pass =>
    show Bd (n + 16) (passBy S)
    unfold passBy
    split
    · exact (h.take none).mono (by omega)
    · exact h.mono (by omega)
  | day =>
    show Bd (n + 16) (dayF d rs S)
    unfold dayF
    split
    · exact h.mono (by omega)
    · rename_i a _
      split
      · have b1 : Bd n ({ S with age := some (a + 1) }, T0) := ⟨h.i, h.v, h.s, h.r, h.l, h.w, h.m⟩
        exact (b1.carry (at_ rs 6) "late").mono (by have := l6 6 (by decide); omega)
      · exact (show Bd n ({ S with age := some (a + 1) }, T0) from ⟨h.i, h.v, h.s, h.r, h.l, h.w, h.m⟩).mono (by omega)
  | power =>
    show Bd (n + 16) (powerF rs S)
    unfold powerF
    exact (h.carry (at_ rs 7) "power").mono (by have := l6 7 (by decide); omega)
section
variable {P : Program} {w : World} {K : PySem.W.Frag} {mg : Str → Option Value} {base : Heap}
def sp_do_deed (K : PySem.W.Frag) : Sp := fun vs H Q _ => ∃ (H0 : Hp) (b k : Addr) (v : V) (x : Deed) (p : Int) (d : Int) (rs : List RuleL) (S : BoxS) (n : Nat), vs = [.ref k, .ref b, v, .int p] ∧ DeedAt K H v x ∧ Bx K H0 H b S ∧ BookAt K H0 k d rs ∧ GoodB rs ∧ Bd n (S, T0) ∧ n < 900000 ∧ ∀ H' t, BTx K H0 H' b t (doF rs d p x S) → Q (.ref t) H'
set_option maxHeartbeats 2000000 in
theorem ok_do_deed (T : Txt K mg) {fd : FuncData} (F : FunD K d_do_deed.name d_do_deed.qual d_do_deed.params d_do_deed.body d_do_deed.scope (d_do_deed.dvs K) (d_do_deed.kws K) (He.fAd K d_do_deed.at_) fd) : FnOk P w K mg base C8.CX0 6 (He.fAd K d_do_deed.at_) fd ["book", "box", "deed", "parcel"] (sp_do_deed K) := by
  have c_Box_power := c_Box_power (P := P) (w := w) (base := base) T
  have c_Box_day := c_Box_day (P := P) (w := w) (base := base) T
  have c_Box_pass_by := c_Box_pass_by (P := P) (w := w) (base := base) T
  have c_Box_code := c_Box_code (P := P) (w := w) (base := base) T
  have c_Box_bring := c_Box_bring (P := P) (w := w) (base := base) T
  refine F.ok sc_do_deed (fun vs H Q E h => ?_) (fun cdv A outer s H vs Q E hr h => ?_)
  · obtain ⟨H0, b, k, v, x, p, d, rs, S, n, rfl, _⟩ := h
    rfl
  · have hu := L2.hu_of hr
    obtain ⟨H0, b, k, v, x, p, d, rs, S, n, rfl, ⟨a, rfl, ha⟩, hB, hk, hg, bd, hn, q⟩ := h
    obtain ⟨dx, li, dv, ds, dr, hb⟩ := id hB
    refine ⟨_, (PSs.nox ((pss_cons (ps_set (i := 4) sc_do_deed.nd rfl (by first | exact Or.inl rfl | exact Or.inr rfl) (pe_ix (My.ix_tupK (K := K) rfl) (pv 2) pe_int (fun _ _ => rfl)))
  (pss_cons (ps_if (pt_cmpR op_eq (pv 4) pe_str (nomark _))
  (pss_one (ps_ret (C8.pe_mt c_Box_bring hr (by decide) (pv 1) (pa_cons (pv 0) (pa_cons (pv 3) (pa_cons (pe_ix (My.ix_tupK (K := K) rfl) (pv 2) pe_int (fun _ _ => rfl)) (pa_cons (pe_ix (My.ix_tupK (K := K) rfl) (pv 2) pe_int (fun _ _ => rfl)) pa_nil)))))))
  pss_nil)
  (pss_cons (ps_if (pt_cmpR op_eq (pv 4) pe_str (nomark _))
  (pss_one (ps_ret (C8.pe_mt c_Box_code hr (by decide) (pv 1) (pa_cons (pv 0) (pa_cons (pe_ix (My.ix_tupK (K := K) rfl) (pv 2) pe_int (fun _ _ => rfl)) (pa_cons (pe_ix (My.ix_tupK (K := K) rfl) (pv 2) pe_int (fun _ _ => rfl)) (pa_cons (pe_ix (My.ix_tupK (K := K) rfl) (pv 2) pe_int (fun _ _ => rfl)) pa_nil)))))))
  pss_nil)
  (pss_cons (ps_if (pt_cmpR op_eq (pv 4) pe_str (nomark _))
  (pss_one (ps_ret (C8.pe_mt0 c_Box_pass_by hr (by decide) (pv 1))))
  pss_nil)
  (pss_cons (ps_if (pt_cmpR op_eq (pv 4) pe_str (nomark _))
  (pss_one (ps_ret (C8.pe_mt c_Box_day hr (by decide) (pv 1) (pa_cons (pv 0) pa_nil))))
  pss_nil)
  (pss_one (ps_ret (C8.pe_mt c_Box_power hr (by decide) (pv 1) (pa_cons (pv 0) pa_nil))))))))))), ?_⟩
    have w0 : atI x.vs 0 = some (.str x.w) := by cases x <;> rfl
    refine ⟨_, rfl, a, _, _, _, rfl, rfl, ha, w0, ?_⟩
    refine ⟨_, rfl, rfl, _, rfl, ?_⟩
    cases x with
    | bring l s => exact ⟨_, rfl, b, dx, _, rfl, hb.hb, rfl, _, rfl, _, rfl, _, rfl, a, _, _, _, rfl, rfl, ha, rfl, _, rfl, a, _, _, _, rfl, rfl, ha, rfl, H0, b, k, p, l, s, d, rs, S, n, rfl, hB, hk, hg, bd, hn, q⟩
    | code p1 t s =>
      refine ⟨_, rfl, rfl, _, rfl, ?_⟩
      exact ⟨_, rfl, b, dx, _, rfl, hb.hb, rfl, _, rfl, _, rfl, a, _, _, _, rfl, rfl, ha, rfl, _, rfl, a, _, _, _, rfl, rfl, ha, rfl, _, rfl, a, _, _, _, rfl, rfl, ha, rfl, H0, b, k, p1, t, s, d, rs, S, n, rfl, hB, hk, hg, bd, hn, q⟩
    | pass =>
      refine ⟨_, rfl, rfl, _, rfl, ?_⟩
      refine ⟨_, rfl, rfl, _, rfl, ?_⟩
      exact ⟨_, rfl, b, dx, _, rfl, hb.hb, rfl, H0, b, S, n, rfl, hB, bd, hn, q⟩
    | day =>
      refine ⟨_, rfl, rfl, _, rfl, ?_⟩
      refine ⟨_, rfl, rfl, _, rfl, ?_⟩
      refine ⟨_, rfl, rfl, _, rfl, ?_⟩
      exact ⟨_, rfl, b, dx, _, rfl, hb.hb, rfl, _, rfl, H0, b, k, d, rs, S, n, rfl, hB, hk, hg, bd, hn, q⟩
    | power =>
      refine ⟨_, rfl, rfl, _, rfl, ?_⟩
      refine ⟨_, rfl, rfl, _, rfl, ?_⟩
      refine ⟨_, rfl, rfl, _, rfl, ?_⟩
      exact ⟨_, rfl, b, dx, _, rfl, hb.hb, rfl, _, rfl, H0, b, k, d, rs, S, n, rfl, hB, hk, hg, bd, hn, q⟩
theorem c_do_deed (T : Txt K mg) : C8.Cal P w K mg base 6 "do_deed" (sp_do_deed K) [] := by
  obtain ⟨fd, F⟩ := T.f_do_deed
  exact ⟨_, fd, _, _, ok_do_deed T F, T.g_do_deed, F.kp, F.bindsN (fun _ _ _ _ _ _ us hl => match us, hl with | [_, _, _, _], _ => rfl), .nil⟩
def sp_Box_init (K : PySem.W.Frag) : Sp := fun vs H Q _ => ∃ (b dx : Addr), vs = [.ref b] ∧ H b = some (.ins (He.ga K "Box") dx []) ∧
  ∀ H' li dv ds dr, But [b] H H' → [li, dv, ds, dr].Nodup → (∀ a ∈ [li, dv, ds, dr], H a = none) → H' b = some (.ins (He.ga K "Box") dx (bxf S0 li dv ds dr)) → H' li = some (.lst []) → H' dv = some (.dK []) → H' ds = some (.dK []) → H' dr = some (.dK []) → Q .non H'
set_option maxHeartbeats 2000000 in
theorem ok_Box_init (T : Txt K mg) {fd : FuncData} (F : FunD K d_Box_init.name d_Box_init.qual d_Box_init.params d_Box_init.body d_Box_init.scope (d_Box_init.dvs K) (d_Box_init.kws K) (He.fAd K d_Box_init.at_) fd) : FnOk P w K mg base C8.CX0 1 (He.fAd K d_Box_init.at_) fd ["self"] (sp_Box_init K) := by
  refine F.ok sc_Box_init (fun vs H Q E h => ?_) (fun cdv A outer s H vs Q E hr h => ?_)
  · obtain ⟨t, dt, rfl, _⟩ := h
    rfl
  · have hu := L2.hu_of hr
    obtain ⟨t, dt, rfl, ht, q⟩ := h
    refine ⟨_, (PSs.nox ((pss_cons (ps_fld (pv 0) pe_bl rfl)
  (pss_cons (ps_fld (pv 0) (pe_lst pa_nil) rfl)
  (pss_cons (ps_fld (pv 0) pe_str rfl)
  (pss_cons (ps_fld (pv 0) pe_dnewK rfl)
  (pss_cons (ps_fld (pv 0) pe_non rfl)
  (pss_cons (ps_fld (pv 0) pe_non rfl)
  (pss_cons (ps_fld (pv 0) pe_dnewK rfl)
  (pss_one (ps_fld (pv 0) pe_dnewK rfl))))))))))), ?_⟩
    refine ⟨_, rfl, t, _, dt, _, rfl, ht, T.cl_Box, T.no_Box_ajar, (by show 0 < 1000; decide), ?_⟩
    refine ⟨Nat.zero_le _, fun p1 h1 => ?_⟩
    obtain ⟨a1, h1⟩ := up_none h1
    refine ⟨_, rfl, t, _, dt, _, rfl, (by rw [upd_ne a1.symm]; exact upd_same), T.cl_Box, T.no_Box_inside, (by show 1 < 1000; decide), ?_⟩
    refine ⟨_, rfl, t, _, dt, _, rfl, upd_same, T.cl_Box, T.no_Box_taken_for, (by show 2 < 1000; decide), ?_⟩
    refine fun p2 h2 => ?_
    obtain ⟨a2, h2⟩ := up_none h2
    obtain ⟨_, h2⟩ := up_none h2
    obtain ⟨b2, h2⟩ := up_none h2
    obtain ⟨_, h2⟩ := up_none h2
    refine ⟨_, rfl, t, _, dt, _, rfl, (by rw [upd_ne a2.symm]; exact upd_same), T.cl_Box, T.no_Box_valid, (by show 3 < 1000; decide), ?_⟩
    refine ⟨_, rfl, t, _, dt, _, rfl, upd_same, T.cl_Box, T.no_Box_age, (by show 4 < 1000; decide), ?_⟩
    refine ⟨_, rfl, t, _, dt, _, rfl, upd_same, T.cl_Box, T.no_Box_last, (by show 5 < 1000; decide), ?_⟩
    refine fun p3 h3 => ?_
    obtain ⟨a3, h3⟩ := up_none h3
    obtain ⟨_, h3⟩ := up_none h3
    obtain ⟨_, h3⟩ := up_none h3
    obtain ⟨c3, h3⟩ := up_none h3
    obtain ⟨_, h3⟩ := up_none h3
    obtain ⟨_, h3⟩ := up_none h3
    obtain ⟨b3, h3⟩ := up_none h3
    obtain ⟨_, h3⟩ := up_none h3
    refine ⟨_, rfl, t, _, dt, _, rfl, (by rw [upd_ne a3.symm]; exact upd_same), T.cl_Box, T.no_Box_sent, (by show 6 < 1000; decide), ?_⟩
    refine fun p4 h4 => ?_
    obtain ⟨a4, h4⟩ := up_none h4
    obtain ⟨d4, h4⟩ := up_none h4
    obtain ⟨_, h4⟩ := up_none h4
    obtain ⟨_, h4⟩ := up_none h4
    obtain ⟨_, h4⟩ := up_none h4
    obtain ⟨c4, h4⟩ := up_none h4
    obtain ⟨_, h4⟩ := up_none h4
    obtain ⟨_, h4⟩ := up_none h4
    obtain ⟨b4, h4⟩ := up_none h4
    obtain ⟨_, h4⟩ := up_none h4
    refine ⟨_, rfl, t, _, dt, _, rfl, (by rw [upd_ne a4.symm]; exact upd_same), T.cl_Box, T.no_Box_served, (by show 7 < 1000; decide), ?_⟩
    have nt : t ∈ [t] := by simp
    refine q _ p1 p2 p3 p4 ?_ ?_ ?_ upd_same ?_ ?_ ?_ ?_
    · exact ((((((((((((But.refl [t] H).put (.inr nt)).put (.inl h1)).put (.inr nt)).put (.inr nt)).put (.inl h2)).put (.inr nt)).put (.inr nt)).put (.inr nt)).put (.inl h3)).put (.inr nt)).put (.inl h4)).put (.inr nt)
    · simp only [List.nodup_cons, List.mem_cons, List.not_mem_nil, or_false, not_or, not_false_eq_true, List.nodup_nil, and_true]
      exact ⟨⟨b2.symm, b3.symm, b4.symm⟩, ⟨c3.symm, c4.symm⟩, d4.symm⟩
    · intro a ha
      simp only [List.mem_cons, List.not_mem_nil, or_false] at ha
      rcases ha with rfl | rfl | rfl | rfl <;> assumption
    · rw [upd_ne a1, upd_ne b4.symm, upd_ne a1, upd_ne b3.symm, upd_ne a1, upd_ne a1, upd_ne a1, upd_ne b2.symm, upd_ne a1, upd_ne a1, upd_same]
    · rw [upd_ne a2, upd_ne c4.symm, upd_ne a2, upd_ne c3.symm, upd_ne a2, upd_ne a2, upd_ne a2, upd_same]
    · rw [upd_ne a3, upd_ne d4.symm, upd_ne a3, upd_same]
    · rw [upd_ne a4, upd_same]
theorem c_Box_init (T : Txt K mg) : C8.Mak P w K mg base 1 "Box" (He.ga K "Box") (sp_Box_init K) [] := by
  obtain ⟨fd, F⟩ := T.f_Box_init
  exact ⟨_, fd, _, _, T.mk_Box, ok_Box_init T F, T.g_Box, F.bindsN (fun _ _ _ _ _ _ us hl => match us, hl with | [_], _ => rfl), .nil⟩
end
end K32

namespace K32
open PySem PySem.Spec PyProof.Rows L2 My
abbrev PlayS := Int × BoxS × List ToldS
def stepF (rs : List RuleL) (d : Int) (st : PlayS) (x : Deed) : PlayS :=
  (if isBr x = true then st.1 + 1 else st.1, (doF rs d (if isBr x = true then st.1 + 1 else st.1) x st.2.1).1, st.2.2 ++ [(doF rs d (if isBr x = true then st.1 + 1 else st.1) x st.2.1).2])
def runF (rs : List RuleL) (d : Int) (ds : List Deed) : PlayS := ds.foldl (stepF rs d) (0, S0, [])
theorem runF_more {rs : List RuleL} {d : Int} {ds : List Deed} {i : Nat} {x : Deed} (h : ds[i]? = some x) : runF rs d (ds.take (i + 1)) = stepF rs d (runF rs d (ds.take i)) x := by
  unfold runF
  rw [take_more h, List.foldl_append]
  rfl
theorem runF_bd {rs : List RuleL} {d : Int} (hg : GoodB rs) : ∀ (ds : List Deed) (i : Nat), i ≤ ds.length → Bd (16 * i) ((runF rs d (ds.take i)).2.1, T0) := by
  intro ds i
  induction i with
  | zero => intro _; exact ⟨Nat.le_refl _, Nat.le_refl _, Nat.le_refl _, Nat.le_refl _, Nat.le_refl _, Nat.le_refl _, Nat.le_refl _⟩
  | succ i ih =>
    intro hi
    have hx := List.getElem?_eq_getElem (show i < ds.length by omega)
    rw [runF_more hx]
    have := ((ih (by omega)).doF hg (d := d) (k := if isBr ds[i] = true then (runF rs d (ds.take i)).1 + 1 else (runF rs d (ds.take i)).1) (x := ds[i])).self
    exact this.mono (by omega)
theorem runF_len (rs : List RuleL) (d : Int) (ds : List Deed) : (runF rs d ds).2.2.length = ds.length := by
  have hh : ∀ (l : List Deed) (st : PlayS), (l.foldl (stepF rs d) st).2.2.length = st.2.2.length + l.length := by
    intro l
    induction l with
    | nil => intro st; rfl
    | cons z l ih =>
      intro st
      rw [List.foldl_cons, ih, List.length_cons]
      show (st.2.2 ++ [_]).length + l.length = _
      rw [List.length_append]
      show st.2.2.length + 1 + l.length = _
      omega
  unfold runF
  rw [hh]
  show 0 + _ = _
  omega
def hideF (fp : List Addr) (H : Hp) : Hp := fun a => if a ∈ fp then none else H a
theorem hide_same (fp : List Addr) (H : Hp) : Same (hideF fp H) H := fun a o e => by
  unfold hideF at e
  split at e
  · cases e
  · exact e
theorem hide_none {fp : List Addr} {H : Hp} {a : Addr} (h : a ∈ fp) : hideF fp H a = none := if_pos h
theorem hide_some {fp : List Addr} {H : Hp} {a : Addr} {o : HO} (n : a ∉ fp) (h : H a = some o) : hideF fp H a = some o := by
  unfold hideF
  rw [if_neg n]
  exact h
theorem hide_in {fp : List Addr} {H : Hp} {a : Addr} {o : HO} (h : hideF fp H a = some o) : a ∉ fp := fun z => by
  rw [hide_none z] at h
  cases h
/-- a told thing (it, its letters, what was got) that stands apart from the list at sl -/
def TdAt (K : PySem.W.Frag) (H : Hp) (sl : Addr) (z : Addr × Addr × Addr) (U : ToldS) : Prop := ∃ dt yb lw lm, (sl ≠ z.1 ∧ sl ≠ z.2.1 ∧ sl ≠ z.2.2 ∧ sl ≠ lw ∧ sl ≠ lm) ∧ H z.1 = some (.ins (He.ga K "Told") dt (tdf U yb z.2.1 z.2.2 lw lm)) ∧ H z.2.1 = some (.lst (U.letters.map V.int)) ∧ H z.2.2 = some (.lst (U.got.map V.int)) ∧
  H lw = some (.lst (U.wrongs.map V.str)) ∧ H lm = some (.lst (U.moments.map V.str))
/-- the lists of letters and of what was got -/
def lets (ts : List (Addr × Addr × Addr)) : List Addr := ts.flatMap fun z => [z.2.1, z.2.2]
def StoryAt (K : PySem.W.Frag) (H0 H : Hp) (sl : Addr) (Us : List ToldS) : Prop := ∃ ts : List (Addr × Addr × Addr), H sl = some (.lst (ts.map fun z => V.ref z.1)) ∧ Paired (TdAt K H sl) ts Us ∧ (lets ts).Nodup ∧ ∀ x ∈ lets ts, H0 x = none
theorem TdAt.same {K : PySem.W.Frag} {H H' : Hp} {sl : Addr} {z : Addr × Addr × Addr} {U : ToldS} (s : But [sl] H H') (h : TdAt K H sl z U) : TdAt K H' sl z U := by
  obtain ⟨dt, yb, lw, lm, ⟨n1, n2, n3, n4, n5⟩, h1, h2, h3, h4, h5⟩ := h
  exact ⟨dt, yb, lw, lm, ⟨n1, n2, n3, n4, n5⟩, s _ _ (by simpa using n1.symm) h1, s _ _ (by simpa using n2.symm) h2, s _ _ (by simpa using n3.symm) h3, s _ _ (by simpa using n4.symm) h4, s _ _ (by simpa using n5.symm) h5⟩
theorem lets_some {K : PySem.W.Frag} {H : Hp} {sl : Addr} : ∀ {ts : List (Addr × Addr × Addr)} {Us : List ToldS}, Paired (TdAt K H sl) ts Us → ∀ x ∈ lets ts, ∃ o, H x = some o
  | _, _, .nil, x, hx => by cases hx
  | z :: ts, _, .cons r t, x, hx => by
    obtain ⟨dt, yb, lw, lm, _, h1, h2, h3, _⟩ := r
    have hx2 : x ∈ z.2.1 :: z.2.2 :: lets ts := hx
    rcases List.mem_cons.mp hx2 with e | hx2
    · rw [e]; exact ⟨_, h2⟩
    · rcases List.mem_cons.mp hx2 with e | hx2
      · rw [e]; exact ⟨_, h3⟩
      · exact lets_some t x hx2
theorem lets_app (ts us : List (Addr × Addr × Addr)) : lets (ts ++ us) = lets ts ++ lets us := by
  unfold lets
  rw [List.flatMap_append]
/-- behind some deeds: the box, the story, all that stood -/
def PlayedAt (K : PySem.W.Frag) (H H' : Hp) (b sl : Addr) (S : BoxS) (Us : List ToldS) : Prop := ∃ dx li dv ds dr, BxA K (hideF [b, li, dv, ds, dr] H') H' b dx li dv ds dr S ∧ Same H (hideF [b, li, dv, ds, dr] H') ∧ StoryAt K H (hideF [b, li, dv, ds, dr] H') sl Us ∧ H sl = none
theorem bxa_hide {K : PySem.W.Frag} {H : Hp} {b dx li dv ds dr : Addr} {S : BoxS} (nd : [b, li, dv, ds, dr].Nodup) (hb : H b = some (.ins (He.ga K "Box") dx (bxf S li dv ds dr))) (hli : H li = some (.lst (S.inside.map V.int))) (hdv : H dv = some (.dK (kvT S.valid)))
    (hds : H ds = some (.dK (kvT S.sent))) (hdr : H dr = some (.dK (kvT S.served))) : BxA K (hideF [b, li, dv, ds, dr] H) H b dx li dv ds dr S :=
  ⟨hide_same _ _, nd, fun _ ha => hide_none ha, hb, hli, hdv, hds, hdr⟩
section
variable {P : Program} {w : World} {K : PySem.W.Frag} {mg : Str → Option Value} {base : Heap}
def sp_played (K : PySem.W.Frag) : Sp := fun vs H Q _ => ∃ (k a : Addr) (d : Int) (rs : List RuleL) (xs : List V) (ds : List Deed), vs = [.ref k, .ref a] ∧ BookAt K H k d rs ∧ GoodB rs ∧ SqL K H a xs ∧ DeedsAt K H xs ds ∧ ds.length ≤ 50000 ∧
  ∀ H' p b sl, PlayedAt K H H' b sl (runF rs d ds).2.1 (runF rs d ds).2.2 → H' p = some (.tup [.ref b, .ref sl]) → H p = none → Q (.ref p) H'
set_option maxHeartbeats 2000000 in
theorem ok_played (T : Txt K mg) {fd : FuncData} (F : FunD K d_played.name d_played.qual d_played.params d_played.body d_played.scope (d_played.dvs K) (d_played.kws K) (He.fAd K d_played.at_) fd) : FnOk P w K mg base C8.CX0 7 (He.fAd K d_played.at_) fd ["book", "deeds"] (sp_played K) := by
  have c_do_deed := c_do_deed (P := P) (w := w) (base := base) T
  have c_Box_init := c_Box_init (P := P) (w := w) (base := base) T
  refine F.ok sc_played (fun vs H Q E h => ?_) (fun cdv A outer s H vs Q E hr h => ?_)
  · obtain ⟨k, a, d, rs, xs, ds, rfl, _⟩ := h
    rfl
  · have hu := L2.hu_of hr
    obtain ⟨k, a, d, rs, xs, ds, rfl, hk, hg, hS, hD, hl, q⟩ := h
    have hlen : xs.length = ds.length := hD.length
    refine ⟨_, (PSs.nox ((pss_cons (ps_set (i := 2) sc_played.nd rfl (by first | exact Or.inl rfl | exact Or.inr rfl) (My.pe_mk0 c_Box_init hr (by decide) rfl))
  (pss_cons (ps_set (i := 3) sc_played.nd rfl (by first | exact Or.inl rfl | exact Or.inr rfl) pe_int)
  (pss_cons (ps_set (i := 4) sc_played.nd rfl (by first | exact Or.inl rfl | exact Or.inr rfl) (pe_lst pa_nil))
  (pss_cons (ps_for PassesOwn.never rfl (My.pi_listK (K := K) rfl (pv 1)) (pg_name (i := 5) sc_played.nd rfl (by first | exact Or.inl rfl | exact Or.inr rfl))
  (pss_cons (ps_if (pt_cmpR op_eq (pe_ix (My.ix_tupK (K := K) rfl) (pv 5) pe_int (fun _ _ => rfl)) pe_str (nomark _))
  (pss_one (ps_aug (i := 3) sc_played.nd rfl (by first | exact Or.inl rfl | exact Or.inr rfl) pe_int ip_add))
  pss_nil)
  (pss_one (ps_expr (My.pe_bmK (K := K) rfl PySem.F.plainAttrs_list PySem.F.slot_list_append PySem.F.type_list_append mt_append (pv 4) (pa_cons (C8.pe_c c_do_deed hr (by decide) rfl (pa_cons (pv 0) (pa_cons (pv 2) (pa_cons (pv 5) (pa_cons (pv 3) pa_nil))))) pa_nil))))))
  (pss_one (ps_ret (pe_tup (pa_cons (pv 2) (pa_cons (pv 4) pa_nil))))))))))), ?_⟩
    intro b dx nb ndb nex
    have s0 : Same H (upd (upd H dx (.own b)) b (.ins (He.ga K "Box") dx [])) := (same_new ndb).trans (same_upd (Same.refl _) (by rw [upd_ne nex.symm]; exact nb))
    refine ⟨b, dx, rfl, upd_same, fun H1 li dv dsn dr bt nd new h1 h2 h3 h4 h5 => ⟨rfl, ?_⟩⟩
    have new2 : ∀ x ∈ [li, dv, dsn, dr], x ≠ b ∧ H x = none := fun x hx => by
      obtain ⟨y1, y2⟩ := up_none (new x hx)
      obtain ⟨_, y3⟩ := up_none y2
      exact ⟨y1, y3⟩
    have s1 : Same H H1 := fun c o e => bt c o (by simpa using ne_of_none e nb) (s0 _ _ e)
    have ndb5 : [b, li, dv, dsn, dr].Nodup := List.nodup_cons.mpr ⟨fun z => (new2 b z).1 rfl, nd⟩
    have none5 : ∀ x ∈ [b, li, dv, dsn, dr], H x = none := fun x hx => by
      rcases List.mem_cons.mp hx with z | z
      · rw [z]; exact nb
      · exact (new2 x z).2
    refine ⟨Nat.zero_le _, fun sl hsl => ?_⟩
    have nslb : sl ≠ b := (ne_of_none h1 hsl).symm
    have nsl5 : sl ∉ [b, li, dv, dsn, dr] := by
      simp only [List.mem_cons, List.not_mem_nil, or_false, not_or]
      exact ⟨nslb, (ne_of_none h2 hsl).symm, (ne_of_none h3 hsl).symm, (ne_of_none h4 hsl).symm, (ne_of_none h5 hsl).symm⟩
    have hHsl : H sl = none := s1.free hsl
    have ini : PlayedAt K H (upd H1 sl (.lst [])) b sl S0 [] := by
      simp only [List.mem_cons, List.not_mem_nil, or_false, not_or] at nsl5
      refine ⟨dx, li, dv, dsn, dr, bxa_hide ndb5 (by rw [upd_ne nslb.symm]; exact h1) (by rw [upd_ne (Ne.symm nsl5.2.1)]; exact h2) (by rw [upd_ne (Ne.symm nsl5.2.2.1)]; exact h3) (by rw [upd_ne (Ne.symm nsl5.2.2.2.1)]; exact h4) (by rw [upd_ne (Ne.symm nsl5.2.2.2.2)]; exact h5), ?_, ⟨[], ?_, .nil, List.nodup_nil, fun x hx => by cases hx⟩, hHsl⟩
      · intro c o e
        refine hide_some (fun z => ?_) (same_upd s1 hHsl _ _ e)
        rw [none5 c z] at e
        cases e
      · refine hide_some ?_ upd_same
        simp only [List.mem_cons, List.not_mem_nil, or_false, not_or]
        exact nsl5
    have psame : ∀ {H' : Hp} {S : BoxS} {Us : List ToldS}, PlayedAt K H H' b sl S Us → Same H H' := fun ⟨_, _, _, _, _, _, z, _⟩ => z.trans (hide_same _ _)
    refine ⟨_, rfl, a, rfl, ⟨_, (psame ini).seq hS⟩, ?_⟩
    refine for_list (K := K) (a := a) (xs := xs) (fun i σ H' => ∃ u, σ = [some (.ref k), some (.ref a), some (.ref b), some (.int (runF rs d (ds.take i)).1), some (.ref sl), u] ∧ PlayedAt K H H' b sl (runF rs d (ds.take i)).2.1 (runF rs d (ds.take i)).2.2) ⟨_, rfl, ini⟩ (fun i σ H' _ ⟨_, _, z⟩ => (psame z).seq hS) ?_ ?_
    · rintro i y σ H2 hi ⟨u, rfl, hp⟩
      obtain ⟨x, hx, hat⟩ := paired_at hD hi
      obtain ⟨dx2, li2, dv2, ds2, dr2, hB, s2, ⟨ts, hts, htd, hnd, hfr⟩, hsl0⟩ := id hp
      have sH2 : Same H H2 := psame hp
      obtain ⟨ax, rfl, hax⟩ := hat
      have hax2 := same_tup sH2 hax
      have w0 : atI x.vs 0 = some (.str x.w) := by cases x <;> rfl
      have hib : i < ds.length := (List.getElem?_eq_some_iff.mp hx).1
      have bdi := runF_bd (d := d) hg ds i (by omega)
      -- behind the counting
      have last : ∀ n' : Int, n' = (if isBr x = true then (runF rs d (ds.take i)).1 + 1 else (runF rs d (ds.take i)).1) →
          tDrop (tBM K "list" rAppend (tVar 4) (tCons (tCall (sp_do_deed K) [] C8.E0 (tCons (tVar 0) (tCons (tVar 2) (tCons (tVar 5) (tCons (tVar 3) tNil))))) tNil))
            { nx := fun σ H' => ∃ u, σ = [some (.ref k), some (.ref a), some (.ref b), some (.int (runF rs d (ds.take (i + 1))).1), some (.ref sl), u] ∧ PlayedAt K H H' b sl (runF rs d (ds.take (i + 1))).2.1 (runF rs d (ds.take (i + 1))).2.2, rt := Q }
            [some (.ref k), some (.ref a), some (.ref b), some (.int n'), some (.ref sl), some (.ref ax)] H2 := by
        intro n' en
        have hsl2 := hide_same _ _ _ _ hts
        refine ⟨_, rfl, .inl ⟨rfl, _, SqL.of hsl2⟩, _, rfl, _, rfl, _, rfl, _, rfl, hideF [b, li2, dv2, ds2, dr2] H2, b, k, _, x, n', d, rs, _, 16 * i, rfl, ⟨ax, rfl, hax2⟩, ⟨dx2, li2, dv2, ds2, dr2, hB⟩, hk.same s2, hg, bdi, by omega, fun H3 t hx3 => ?_⟩
        obtain ⟨dx3, li3, dv3, ds3, dr3, dt, yb, ll, lg, lw, lm, h3⟩ := hx3
        have hsl3 := h3.same _ _ hts
        refine ⟨sl, _, _, rfl, rfl, hsl3, ?_, ?_⟩
        · rw [List.length_map, htd.length]
          have : (runF rs d (ds.take i)).2.2.length ≤ 50000 := by
            have hh : ∀ (l : List Deed) (st : PlayS), (l.foldl (stepF rs d) st).2.2.length = st.2.2.length + l.length := by
              intro l
              induction l with
              | nil => intro st; rfl
              | cons z l ih =>
                intro st
                rw [List.foldl_cons, ih, List.length_cons]
                show (st.2.2 ++ [_]).length + l.length = _
                rw [List.length_append]
                show st.2.2.length + 1 + l.length = _
                omega
            unfold runF
            rw [hh, List.length_take]
            show 0 + _ ≤ _
            omega
          exact lt_line (by omega)
        · refine ⟨some (.ref ax), ?_, ?_⟩
          · rw [runF_more hx, en]
            rfl
          rw [runF_more hx]
          have nsl : ∀ z ∈ [b, li3, dv3, ds3, dr3, t, ll, lg, lw, lm], sl ≠ z := fun z hz e => by
            rw [← e] at hz
            rw [h3.new sl hz] at hts
            cases hts
          have es : upd H3 sl (.lst (ts.map (fun z => V.ref z.1) ++ [V.ref t])) = upd H3 sl (.lst ((ts ++ [(t, ll, lg)]).map fun z => V.ref z.1)) := by rw [List.map_append]; rfl
          rw [es]
          have nd5 : [b, li3, dv3, ds3, dr3].Nodup := (List.nodup_append.mp (show ([b, li3, dv3, ds3, dr3] ++ [t, ll, lg, lw, lm]).Nodup from h3.nd)).1
          have out5 : ∀ z ∈ [t, ll, lg, lw, lm], z ∉ [b, li3, dv3, ds3, dr3] := fun z hz hz2 => (List.nodup_append.mp (show ([b, li3, dv3, ds3, dr3] ++ [t, ll, lg, lw, lm]).Nodup from h3.nd)).2.2 z hz2 z hz rfl
          have hid : ∀ c o, hideF [b, li2, dv2, ds2, dr2] H2 c = some o → c ≠ sl → hideF [b, li3, dv3, ds3, dr3] (upd H3 sl (.lst ((ts ++ [(t, ll, lg)]).map fun z => V.ref z.1))) c = some o := fun c o e ne => by
            refine hide_some (fun z => ?_) (by rw [upd_ne ne]; exact h3.same _ _ e)
            rw [h3.new c (by
              have : c ∈ [b, li3, dv3, ds3, dr3] ++ [t, ll, lg, lw, lm] := List.mem_append_left _ z
              exact this)] at e
            cases e
          have newt : ∀ z ∈ [t, ll, lg, lw, lm], ∀ o, H3 z = some o → hideF [b, li3, dv3, ds3, dr3] (upd H3 sl (.lst ((ts ++ [(t, ll, lg)]).map fun z => V.ref z.1))) z = some o := fun z hz o e => by
            refine hide_some (out5 z hz) (by
              rw [upd_ne (nsl z (by
                have : z ∈ [b, li3, dv3, ds3, dr3] ++ [t, ll, lg, lw, lm] := List.mem_append_right _ hz
                exact this)).symm]
              exact e)
          refine ⟨dx3, li3, dv3, ds3, dr3, bxa_hide nd5 (by rw [upd_ne (nsl b (by simp)).symm]; subst en; exact h3.hb) (by rw [upd_ne (nsl li3 (by simp)).symm]; subst en; exact h3.hli) (by rw [upd_ne (nsl dv3 (by simp)).symm]; subst en; exact h3.hdv) (by rw [upd_ne (nsl ds3 (by simp)).symm]; subst en; exact h3.hds) (by rw [upd_ne (nsl dr3 (by simp)).symm]; subst en; exact h3.hdr), ?_, ⟨ts ++ [(t, ll, lg)], ?_, ?_, ?_, ?_⟩, hsl0⟩
          · exact fun c o e => hid c o (s2 _ _ e) (ne_of_none e hsl0)
          · refine hide_some (fun z => ?_) upd_same
            exact nsl sl (by
              have : sl ∈ [b, li3, dv3, ds3, dr3] ++ [t, ll, lg, lw, lm] := List.mem_append_left _ z
              exact this) rfl
          · refine Paired.snoc (paired_map (fun z U _ hz => hz.same (fun c o n e => hid c o e (by simpa using n))) htd) ?_
            refine ⟨dt, yb, lw, lm, ⟨nsl t (by simp), nsl ll (by simp), nsl lg (by simp), nsl lw (by simp), nsl lm (by simp)⟩, ?_, ?_, ?_, ?_, ?_⟩
            · subst en; exact newt t (by simp) _ h3.ht
            · subst en; exact newt ll (by simp) _ h3.hll
            · subst en; exact newt lg (by simp) _ h3.hlg
            · subst en; exact newt lw (by simp) _ h3.hlw
            · subst en; exact newt lm (by simp) _ h3.hlm
          · rw [lets_app]
            refine List.nodup_append.mpr ⟨hnd, ?_, fun x hx y hy e => ?_⟩
            · show [ll, lg].Nodup
              simp only [List.nodup_cons, List.mem_cons, List.not_mem_nil, or_false, not_false_eq_true, List.nodup_nil, and_true]
              exact nd_ne h3.nd (i := 6) (j := 7) rfl rfl (by decide)
            · obtain ⟨o, ho⟩ := lets_some htd x hx
              have hy2 : y ∈ [ll, lg] := hy
              simp only [List.mem_cons, List.not_mem_nil, or_false] at hy2
              rw [e] at ho
              rcases hy2 with z | z
              · rw [z, h3.new ll (by simp)] at ho
                cases ho
              · rw [z, h3.new lg (by simp)] at ho
                cases ho
          · intro x hx
            rw [lets_app] at hx
            rcases List.mem_append.mp hx with hx | hx
            · exact hfr x hx
            · have hy2 : x ∈ [ll, lg] := hx
              simp only [List.mem_cons, List.not_mem_nil, or_false] at hy2
              rcases hy2 with z | z
              · rw [z]; exact s2.free (h3.new ll (by simp))
              · rw [z]; exact s2.free (h3.new lg (by simp))
      refine ⟨_, rfl, ax, _, _, _, rfl, rfl, hax2, w0, rfl, _, rfl, ?_⟩
      cases x with
      | bring l s => exact ⟨_, rfl, _, _, rfl, rfl, last _ rfl⟩
      | code p t s => exact last _ rfl
      | pass => exact last _ rfl
      | day => exact last _ rfl
      | power => exact last _ rfl
    · rintro σ H2 ⟨u, rfl, hp⟩
      rw [hlen, List.take_length] at hp
      refine ⟨_, rfl, _, rfl, by show 2 ≤ sizeLine; decide, fun p hpn => ?_⟩
      have hs2 := psame hp
      refine q _ p b sl ?_ upd_same (hs2.free hpn)
      obtain ⟨dx2, li2, dv2, ds2, dr2, hB, s2, ⟨ts, hts, htd, hnd, hfr⟩, hsl0⟩ := hp
      have old : ∀ c ∈ [b, li2, dv2, ds2, dr2], c ≠ p := fun c hc e => by
        rw [e] at hc
        simp only [List.mem_cons, List.not_mem_nil, or_false] at hc
        rcases hc with z | z | z | z | z
        · exact absurd (hB.hb.symm.trans (z ▸ hpn)) (by intro q; cases q)
        · exact absurd (hB.hli.symm.trans (z ▸ hpn)) (by intro q; cases q)
        · exact absurd (hB.hdv.symm.trans (z ▸ hpn)) (by intro q; cases q)
        · exact absurd (hB.hds.symm.trans (z ▸ hpn)) (by intro q; cases q)
        · exact absurd (hB.hdr.symm.trans (z ▸ hpn)) (by intro q; cases q)
      have hid : ∀ c o, hideF [b, li2, dv2, ds2, dr2] H2 c = some o → hideF [b, li2, dv2, ds2, dr2] (upd H2 p (.tup [.ref b, .ref sl])) c = some o := fun c o e => by
        have e2 := hide_same _ _ _ _ e
        exact hide_some (hide_in e) (by rw [upd_ne (ne_of_none e2 hpn)]; exact e2)
      refine ⟨dx2, li2, dv2, ds2, dr2, bxa_hide hB.nd (by rw [upd_ne (old b (by simp))]; exact hB.hb) (by rw [upd_ne (old li2 (by simp))]; exact hB.hli) (by rw [upd_ne (old dv2 (by simp))]; exact hB.hdv) (by rw [upd_ne (old ds2 (by simp))]; exact hB.hds) (by rw [upd_ne (old dr2 (by simp))]; exact hB.hdr), fun c o e => hid c o (s2 _ _ e), ⟨ts, hid _ _ hts, paired_map (fun z U _ hz => hz.same (fun c o _ e => hid c o e)) htd, hnd, hfr⟩, hsl0⟩
theorem c_played (T : Txt K mg) : C8.Cal P w K mg base 7 "played" (sp_played K) [] := by
  obtain ⟨fd, F⟩ := T.f_played
  exact ⟨_, fd, _, _, ok_played T F, T.g_played, F.kp, F.bindsN (fun _ _ _ _ _ _ us hl => match us, hl with | [_, _], _ => rfl), .nil⟩
end
end K32

namespace K32
open PySem PySem.Spec PyProof.Rows L2 My
/-- a report as play tells it -/
def ItAt (H : Hp) (z : Addr × Addr × Addr) (U : ToldS) : Prop := H z.1 = some (.tup [.ref z.2.1, .bl U.opened, .ref z.2.2]) ∧ H z.2.1 = some (.lst (U.letters.map V.int)) ∧ H z.2.2 = some (.lst (U.got.map V.int))
/-- the list that play tells: all of it new, its lists apart -/
def RepAt (H0 H : Hp) (p : Addr) (Us : List ToldS) : Prop := ∃ rs : List (Addr × Addr × Addr), H p = some (.lst (rs.map fun z => V.ref z.1)) ∧ Paired (ItAt H) rs Us ∧ (lets rs).Nodup ∧ (∀ x ∈ lets rs, H0 x = none ∧ x ≠ p) ∧ H0 p = none
theorem paired_take {α β : Type} {F : α → β → Prop} : ∀ {l : List α} {m : List β} (n : Nat), Paired F l m → Paired F (l.take n) (m.take n)
  | _, _, 0, _ => .nil
  | _, _, _ + 1, .nil => .nil
  | _, _, n + 1, .cons r t => .cons r (paired_take n t)
theorem lets_mem {ts : List (Addr × Addr × Addr)} {z : Addr × Addr × Addr} (h : z ∈ ts) : z.2.1 ∈ lets ts ∧ z.2.2 ∈ lets ts := by
  unfold lets
  exact ⟨List.mem_flatMap.mpr ⟨z, h, by simp⟩, List.mem_flatMap.mpr ⟨z, h, by simp⟩⟩
theorem td_get {K : PySem.W.Frag} {H : Hp} {sl : Addr} {ts : List (Addr × Addr × Addr)} {Us : List ToldS} (h : Paired (TdAt K H sl) ts Us) {i : Nat} {y : V} (e : (ts.map fun z => V.ref z.1)[i]? = some y) : ∃ z U, ts[i]? = some z ∧ Us[i]? = some U ∧ y = .ref z.1 ∧ TdAt K H sl z U := by
  obtain ⟨z, hz, rfl⟩ := map_get e
  obtain ⟨U, hU, ht⟩ := paired_at h hz
  exact ⟨z, U, hz, hU, rfl, ht⟩
section
variable {P : Program} {w : World} {K : PySem.W.Frag} {mg : Str → Option Value} {base : Heap}
def sp_Told_report (K : PySem.W.Frag) : Sp := fun vs H Q _ => ∃ (t dt : Addr) (yb : Bool) (ll lg lw lm : Addr) (U : ToldS), vs = [.ref t] ∧ H t = some (.ins (He.ga K "Told") dt (tdf U yb ll lg lw lm)) ∧ ∀ p, H p = none → Q (.ref p) (upd H p (.tup [.ref ll, .bl U.opened, .ref lg]))
set_option maxHeartbeats 2000000 in
theorem ok_Told_report (T : Txt K mg) {fd : FuncData} (F : FunD K d_Told_report.name d_Told_report.qual d_Told_report.params d_Told_report.body d_Told_report.scope (d_Told_report.dvs K) (d_Told_report.kws K) (He.fAd K d_Told_report.at_) fd) : FnOk P w K mg base C8.CX0 1 (He.fAd K d_Told_report.at_) fd ["self"] (sp_Told_report K) := by
  refine F.ok sc_Told_report (fun vs H Q E h => ?_) (fun cdv A outer s H vs Q E hr h => ?_)
  · obtain ⟨t, dt, yb, ll, lg, lw, lm, U, rfl, _⟩ := h
    rfl
  · have hu := L2.hu_of hr
    obtain ⟨t, dt, yb, ll, lg, lw, lm, U, rfl, h1, q⟩ := h
    refine ⟨_, (PSs.nox ((pss_one (ps_ret (pe_tup (pa_cons (My.pe_fldK (K := K) rfl (pv 0) rfl) (pa_cons (My.pe_fldK (K := K) rfl (pv 0) rfl) (pa_cons (My.pe_fldK (K := K) rfl (pv 0) rfl) pa_nil)))))))), ?_⟩
    exact ⟨_, rfl, t, _, dt, _, _, rfl, h1, T.cl_Told, T.no_Told_letters, rfl, _, rfl, t, _, dt, _, _, rfl, h1, T.cl_Told, T.no_Told_opened, rfl, _, rfl, t, _, dt, _, _, rfl, h1, T.cl_Told, T.no_Told_got, rfl, by show 3 ≤ sizeLine; decide, q⟩
theorem c_Told_report (T : Txt K mg) : C8.Met P w K mg base 1 (He.ga K "Told") "report" (sp_Told_report K) [] := by
  obtain ⟨fd, F⟩ := T.f_Told_report
  exact ⟨_, fd, _, _, T.cl_Told, T.m_Told_report, ok_Told_report T F, F.bindsN (fun _ _ _ _ _ _ us hl => match us, hl with | [_], _ => rfl), .nil⟩
def sp_play (K : PySem.W.Frag) : Sp := fun vs H Q _ => ∃ (k a : Addr) (d : Int) (rs : List RuleL) (xs : List V) (ds : List Deed), vs = [.ref k, .ref a] ∧ BookAt K H k d rs ∧ GoodB rs ∧ SqL K H a xs ∧ DeedsAt K H xs ds ∧ Playable ds ∧ ds.length ≤ 50000 ∧
  ∀ H' p, Same H H' → RepAt H H' p (runF rs d ds).2.2 → Q (.ref p) H'
set_option maxHeartbeats 2000000 in
theorem ok_play (T : Txt K mg) {fd : FuncData} (F : FunD K d_play.name d_play.qual d_play.params d_play.body d_play.scope (d_play.dvs K) (d_play.kws K) (He.fAd K d_play.at_) fd) : FnOk P w K mg base C8.CX0 8 (He.fAd K d_play.at_) fd ["book", "deeds"] (sp_play K) := by
  have c_Told_report := c_Told_report (P := P) (w := w) (base := base) T
  have c_played := c_played (P := P) (w := w) (base := base) T
  have c_check_playable := c_check_playable (P := P) (w := w) (base := base) T
  refine F.ok sc_play (fun vs H Q E h => ?_) (fun cdv A outer s H vs Q E hr h => ?_)
  · obtain ⟨k, a, d, rs, xs, ds, rfl, _⟩ := h
    rfl
  · have hu := L2.hu_of hr
    obtain ⟨k, a, d, rs, xs, ds, rfl, hk, hg, hS, hD, hP, hl, q⟩ := h
    refine ⟨_, (PSs.nox ((pss_cons (ps_expr (C8.pe_c c_check_playable hr (by decide) rfl (pa_cons (pv 1) pa_nil)))
  (pss_cons (ps_asg (C8.pe_c c_played hr (by decide) rfl (pa_cons (pv 0) (pa_cons (pv 1) pa_nil))) (My.pg_tupK (K := K) (n := 2) rfl rfl (pgs_cons (pg_name (i := 2) sc_play.nd rfl (by first | exact Or.inl rfl | exact Or.inr rfl)) (pgs_cons (pg_name (i := 3) sc_play.nd rfl (by first | exact Or.inl rfl | exact Or.inr rfl)) pgs_nil))))
  (pss_one (ps_ret (pe_lc (own := [("told", 4)]) (g := (gName 4)) (tt := tYes) (by rfl) sc_play.nd (My.pi_listK (K := K) rfl (pv 3)) (blkOk_by (N := N_play) (sc := defScope s_play) (by decide +kernel)) (fun _ _ _ _ _ => (pg_name (i := 4) sc_play.nd rfl (by first | exact Or.inl rfl | exact Or.inr rfl))) (fun _ _ _ _ _ => pts_nil) (fun _ _ _ _ _ => (C8.pe_mt0 c_Told_report hr (by decide) (pv 4)))))))))), ?_⟩
    refine ⟨_, rfl, a, xs, ds, rfl, hS, hD, hP, fun H1 s1 => ?_⟩
    refine ⟨_, rfl, _, rfl, k, a, d, rs, xs, ds, rfl, hk.same s1, hg, s1.seq hS, hD.same s1, hl, fun H2 p b sl hP2 hp hpn => ?_⟩
    obtain ⟨dx, li, dv, dsn, dr, hB, s2, ⟨ts, hts0, htd0, hnd, hfr⟩, hsl0⟩ := hP2
    have hh := hide_same [b, li, dv, dsn, dr] H2
    have hts := hh _ _ hts0
    have htd := paired_map (fun z U _ hz => TdAt.same (fun c o _ e => hh c o e) hz) htd0
    have sH : Same H H2 := s1.trans (s2.trans hh)
    refine ⟨p, _, rfl, SqT.of hp, rfl, _, _, rfl, _, _, rfl, rfl, ?_⟩
    refine ⟨_, rfl, sl, rfl, ⟨_, SqL.of hts⟩, fun D hD => lc_list (K := K) (a := sl) (xs := ts.map fun z => V.ref z.1)
      (fun i H' => Same H2 H' ∧ ∃ us : List (Addr × Addr × Addr), us.length = i ∧ H' D = some (.lst (us.map fun z => V.ref z.1)) ∧ Paired (ItAt H') us ((runF rs d ds).2.2.take i) ∧ lets us = lets (ts.take i)) ⟨same_new hD, [], rfl, upd_same, .nil, rfl⟩ (fun i H' _ z => SqL.of (z.1 _ _ hts)) ?_ ?_⟩
    · rintro i y H3 hi ⟨s3, us, hul, hD3, hup, hule⟩
      obtain ⟨z, U, hz, hU, rfl, ht⟩ := td_get htd hi
      obtain ⟨dt, yb, lw, lm, _, h1, h2, h3, h4, h5⟩ := ht.same (fun c o _ e => s3 c o e)
      have hlt : i < ts.length := (List.getElem?_eq_some_iff.mp hz).1
      have hlts : ts.length ≤ 50000 := by
        rw [htd.length]
        have := runF_len rs d ds
        omega
      refine ⟨rfl, ?_⟩
      refine ⟨_, rfl, z.1, dt, _, rfl, h1, rfl, z.1, dt, yb, _, _, lw, lm, U, rfl, h1, fun q hq => ?_⟩
      have nqD : q ≠ D := fun e => by rw [e, hD3] at hq; cases hq
      refine ⟨_, by rw [upd_ne nqD.symm]; exact hD3, by rw [List.length_map, hul]; exact lt_line (by omega), same_upd (s3.trans (same_new hq)) hD, us ++ [(q, z.2.1, z.2.2)], by rw [List.length_append, hul]; rfl, by rw [upd_same, List.map_append]; rfl, ?_, ?_⟩
      · have hold : ∀ c o, H3 c = some o → c ≠ D → (upd (upd H3 q (.tup [.ref z.2.1, .bl U.opened, .ref z.2.2])) D (.lst ((us.map fun z => V.ref z.1) ++ [.ref q]))) c = some o := fun c o e n => by
          rw [upd_ne n, upd_ne (ne_of_none e hq)]
          exact e
        have nD : ∀ {c : Addr} {o : HO}, H2 c = some o → c ≠ D := fun e => ne_of_none e hD
        rw [take_more hU]
        refine Paired.snoc (paired_map (fun x V hx hv => ?_) hup) ?_
        · obtain ⟨a1, a2, a3⟩ := hv
          have hx2 : x.2.1 ∈ lets (ts.take i) ∧ x.2.2 ∈ lets (ts.take i) := by rw [← hule]; exact lets_mem hx
          have live : ∀ c ∈ lets (ts.take i), c ≠ D := fun c hc => by
            obtain ⟨o, ho⟩ := lets_some htd c (by
              unfold lets at hc ⊢
              obtain ⟨w, hw, hw2⟩ := List.mem_flatMap.mp hc
              exact List.mem_flatMap.mpr ⟨w, List.mem_of_mem_take hw, hw2⟩)
            exact nD ho
          exact ⟨hold _ _ a1 (ne_of a1 hD3 (fun e => by cases e)), hold _ _ a2 (live _ hx2.1), hold _ _ a3 (live _ hx2.2)⟩
        · obtain ⟨dt0, yb0, lw0, lm0, _, g1, g2, g3, _⟩ := ht
          exact ⟨by rw [upd_ne nqD, upd_same], hold _ _ h2 (nD g2), hold _ _ h3 (nD g3)⟩
      · rw [take_more hz, lets_app, lets_app, hule]
        rfl
    · rintro H3 ⟨s3, us, hul, hD3, hup, hule⟩
      rw [List.length_map] at hul hup hule
      rw [List.take_length] at hule
      rw [htd.length, List.take_length] at hup
      refine q _ D (sH.trans s3) ⟨us, hD3, hup, by rw [hule]; exact hnd, fun x hx => ?_, sH.free hD⟩
      rw [hule] at hx
      obtain ⟨o, ho⟩ := lets_some htd x hx
      exact ⟨s1.free (hfr x hx), ne_of_none ho hD⟩
theorem c_play (T : Txt K mg) : C8.Cal P w K mg base 8 "play" (sp_play K) [] := by
  obtain ⟨fd, F⟩ := T.f_play
  exact ⟨_, fd, _, _, ok_play T F, T.g_play, F.kp, F.bindsN (fun _ _ _ _ _ _ us hl => match us, hl with | [_, _], _ => rfl), .nil⟩
theorem k_play (T : Txt K mg) : My.CalK2 P w K mg base 8 "play" (sp_play K) "book" "deeds" := by
  obtain ⟨fd, F⟩ := T.f_play
  exact ⟨_, fd, ok_play T F, T.g_play, F.kp, My.kw2_of F (fun _ _ _ _ _ _ _ _ => rfl)⟩
/-- how the box stands, as boxes tells it; ys: the valid ones in ascending order -/
def StdAt (H0 H : Hp) (p : Addr) (S : BoxS) (ys : List Int) : Prop := ∃ l1 l2, H p = some (.tup [.bl S.ajar, .ref l1, .str S.tf, .ref l2, oV S.age]) ∧ H l1 = some (.lst (S.inside.map V.int)) ∧ H l2 = some (.lst (ys.map V.int)) ∧ l1 ≠ l2 ∧ H0 l1 = none ∧ H0 l2 = none ∧ H0 p = none ∧ ys.Perm S.valid ∧ ys.Pairwise (· ≤ ·)
def sp_Box_stands (K : PySem.W.Frag) : Sp := fun vs H Q _ => ∃ (b dx li dv ds dr : Addr) (S : BoxS), vs = [.ref b] ∧ H b = some (.ins (He.ga K "Box") dx (bxf S li dv ds dr)) ∧ H li = some (.lst (S.inside.map V.int)) ∧ H dv = some (.dK (kvT S.valid)) ∧ S.valid.length < 64 ∧ ∀ H' p ys, Same H H' → StdAt H H' p S ys → Q (.ref p) H'
def sp_boxes (K : PySem.W.Frag) : Sp := fun vs H Q _ => ∃ (k a : Addr) (d : Int) (rs : List RuleL) (xs : List V) (ds : List Deed), vs = [.ref k, .ref a] ∧ BookAt K H k d rs ∧ GoodB rs ∧ SqL K H a xs ∧ DeedsAt K H xs ds ∧ Playable ds ∧ ds.length ≤ 50000 ∧ (runF rs d ds).2.1.valid.length < 64 ∧
  ∀ H' p ys, Same H H' → StdAt H H' p (runF rs d ds).2.1 ys → Q (.ref p) H'
end
end K32

namespace K32
open PySem PySem.Spec PyProof.Rows L2 My
/-! ### faults -/
def flW (U : ToldS) (i : Nat) : List (Str × Nat) := U.wrongs.map fun x => (x, i)
def fl : Nat → List ToldS → List (Str × Nat)
  | _, [] => []
  | n, U :: r => flW U n ++ fl (n + 1) r
theorem fl_app : ∀ (n : Nat) (A B : List ToldS), fl n (A ++ B) = fl n A ++ fl (n + A.length) B
  | n, [], B => by simp [fl]
  | n, U :: r, B => by
    show flW U n ++ fl (n + 1) (r ++ B) = (flW U n ++ fl (n + 1) r) ++ fl (n + (r.length + 1)) B
    rw [fl_app (n + 1) r B, List.append_assoc, show n + 1 + r.length = n + (r.length + 1) by omega]
theorem fl_more {Us : List ToldS} {i : Nat} {U : ToldS} (h : Us[i]? = some U) : fl 0 (Us.take (i + 1)) = fl 0 (Us.take i) ++ flW U i := by
  have hi : i < Us.length := (List.getElem?_eq_some_iff.mp h).1
  rw [take_more h, fl_app, List.length_take, show 0 + min i Us.length = i by omega]
  show _ ++ (flW U i ++ []) = _
  rw [List.append_nil]
theorem act_w (x : BoxS × ToldS) (a : Str) : (act x a).2.wrongs = x.2.wrongs := by
  unfold act
  split
  · unfold sendCode
    split
    · split <;> rfl
    · rfl
  · split
    · rfl
    · split
      · rfl
      · split <;> rfl
theorem foldl_w (r : RuleL) : ∀ x : BoxS × ToldS, (r.foldl act x).2.wrongs = x.2.wrongs := by
  induction r with
  | nil => intro x; rfl
  | cons a r ih => intro x; rw [List.foldl_cons, ih, act_w]
theorem carry_w (r : RuleL) (m : Str) (x : BoxS × ToldS) : (carry r m x).2.wrongs = x.2.wrongs := foldl_w r _
theorem go_w (sh : Bool) (m1 m2 : Str) (r1 r2 : RuleL) (x : BoxS × ToldS) : (goAway sh m1 m2 r1 r2 x).2.wrongs = x.2.wrongs := by
  unfold goAway
  split
  · split
    · rw [carry_w]
    · rw [carry_w]
  · rfl
theorem lay_w (p : Int) (l : Bool) (x : BoxS × ToldS) : (layIn p l x).2.wrongs.length ≤ x.2.wrongs.length + 1 := by
  unfold layIn
  split
  · show (if x.1.inside.isEmpty = true then x.2.wrongs else x.2.wrongs ++ [("two" : Str)]).length ≤ _
    split
    · omega
    · rw [List.length_append]; exact Nat.le_refl _
  · omega
theorem take_w (o : Option Int) (x : BoxS × ToldS) : (letTake o x).2.wrongs.length ≤ x.2.wrongs.length + 1 := by
  show (if x.1.inside.any (fun p => decide (some p ≠ o)) = true then x.2.wrongs ++ [("wrong" : Str)] else x.2.wrongs).length ≤ _
  split
  · rw [List.length_append]; exact Nat.le_refl _
  · omega
theorem doF_w (rs : List RuleL) (d n : Int) (x : Deed) (S : BoxS) : (doF rs d n x S).2.wrongs.length ≤ 2 := by
  cases x with
  | bring l s =>
    show (bringF rs n l s S).2.wrongs.length ≤ 2
    unfold bringF
    split
    · rw [go_w]
      have := lay_w n l (carry (at_ rs 0) "given" ({ S with ajar := true, age := some 0, last := some n }, { T0 with opened := true }))
      rw [carry_w] at this
      exact Nat.le_trans this (by show 1 ≤ 2; decide)
    · exact Nat.zero_le _
  | code p t s =>
    show (codeF rs p t s S).2.wrongs.length ≤ 2
    unfold codeF
    have aw : ∀ (c : Bool) (wd : Str) (y : BoxS × ToldS), (addW c wd y).2.wrongs.length ≤ y.2.wrongs.length + 1 := fun c wd y => by
      unfold addW
      split
      · show (y.2.wrongs ++ [wd]).length ≤ _
        rw [List.length_append]; exact Nat.le_refl _
      · omega
    split
    · rw [go_w]
      have h1 := aw (missF p S) "empty" (takeIf p t (carry (at_ rs 3) "opened" ({ S with ajar := true }, { T0 with opened := true })))
      have h2 : (takeIf p t (carry (at_ rs 3) "opened" ({ S with ajar := true }, { T0 with opened := true }))).2.wrongs.length ≤ 1 := by
        unfold takeIf
        split
        · have := take_w (some p) (carry (at_ rs 3) "opened" ({ S with ajar := true }, { T0 with opened := true }))
          rw [carry_w] at this
          exact this
        · rw [carry_w]; exact Nat.zero_le _
      omega
    · have := aw (decide (p ∈ S.inside) && decide (p ∈ S.sent)) "refused" (S, T0)
      exact Nat.le_trans this (by show 1 ≤ 2; decide)
  | pass =>
    show (passBy S).2.wrongs.length ≤ 2
    unfold passBy
    split
    · exact Nat.le_trans (take_w none (S, T0)) (by show 1 ≤ 2; decide)
    · exact Nat.zero_le _
  | day =>
    show (dayF d rs S).2.wrongs.length ≤ 2
    unfold dayF
    split
    · exact Nat.zero_le _
    · split
      · rw [carry_w]; exact Nat.zero_le _
      · exact Nat.zero_le _
  | power =>
    show (powerF rs S).2.wrongs.length ≤ 2
    unfold powerF
    rw [carry_w]; exact Nat.zero_le _
theorem run_w (rs : List RuleL) (d : Int) (ds : List Deed) : ∀ U ∈ (runF rs d ds).2.2, U.wrongs.length ≤ 2 := by
  have hh : ∀ (l : List Deed) (st : PlayS), (∀ U ∈ st.2.2, U.wrongs.length ≤ 2) → ∀ U ∈ (l.foldl (stepF rs d) st).2.2, U.wrongs.length ≤ 2 := by
    intro l
    induction l with
    | nil => intro st h; exact h
    | cons z l ih =>
      intro st h
      rw [List.foldl_cons]
      refine ih _ fun U hU => ?_
      rcases List.mem_append.mp (show U ∈ st.2.2 ++ [_] from hU) with hU | hU
      · exact h U hU
      · rw [List.mem_singleton.mp hU]
        exact doF_w _ _ _ _ _
  exact hh ds _ fun U hU => by cases hU
theorem fl_len : ∀ (n : Nat) (Us : List ToldS), (∀ U ∈ Us, U.wrongs.length ≤ 2) → (fl n Us).length ≤ 2 * Us.length
  | _, [], _ => Nat.le_refl _
  | n, U :: r, h => by
    have h1 := fl_len (n + 1) r fun V hV => h V (List.mem_cons_of_mem _ hV)
    have h2 := h U (List.mem_cons_self ..)
    show (flW U n ++ fl (n + 1) r).length ≤ 2 * (r.length + 1)
    rw [List.length_append]
    unfold flW
    rw [List.length_map]
    omega
def FItAt (H : Hp) (t : Addr) (x : Str × Nat) : Prop := H t = some (.tup [.str x.1, .int (x.2 : Nat)])
def FltAt (H0 H : Hp) (p : Addr) (l : List (Str × Nat)) : Prop := ∃ us : List Addr, H p = some (.lst (us.map V.ref)) ∧ Paired (FItAt H) us l ∧ H0 p = none
section
variable {P : Program} {w : World} {K : PySem.W.Frag} {mg : Str → Option Value} {base : Heap}
def sp_faults (K : PySem.W.Frag) : Sp := fun vs H Q _ => ∃ (k a : Addr) (d : Int) (rs : List RuleL) (xs : List V) (ds : List Deed), vs = [.ref k, .ref a] ∧ BookAt K H k d rs ∧ GoodB rs ∧ SqL K H a xs ∧ DeedsAt K H xs ds ∧ Playable ds ∧ ds.length ≤ 50000 ∧
  ∀ H' p, Same H H' → FltAt H H' p (fl 0 (runF rs d ds).2.2) → Q (.ref p) H'
set_option maxHeartbeats 2000000 in
theorem ok_faults (T : Txt K mg) {fd : FuncData} (F : FunD K d_faults.name d_faults.qual d_faults.params d_faults.body d_faults.scope (d_faults.dvs K) (d_faults.kws K) (He.fAd K d_faults.at_) fd) : FnOk P w K mg base C8.CX0 8 (He.fAd K d_faults.at_) fd ["book", "deeds"] (sp_faults K) := by
  have c_played := c_played (P := P) (w := w) (base := base) T
  have c_check_playable := c_check_playable (P := P) (w := w) (base := base) T
  refine F.ok sc_faults (fun vs H Q E h => ?_) (fun cdv A outer s H vs Q E hr h => ?_)
  · obtain ⟨k, a, d, rs, xs, ds, rfl, _⟩ := h
    rfl
  · have hu := L2.hu_of hr
    obtain ⟨k, a, d, rs, xs, ds, rfl, hk, hg, hS, hD, hP, hl, q⟩ := h
    refine ⟨_, (PSs.nox ((pss_cons (ps_expr (C8.pe_c c_check_playable hr (by decide) rfl (pa_cons (pv 1) pa_nil)))
  (pss_cons (ps_asg (C8.pe_c c_played hr (by decide) rfl (pa_cons (pv 0) (pa_cons (pv 1) pa_nil))) (My.pg_tupK (K := K) (n := 2) rfl rfl (pgs_cons (pg_name (i := 2) sc_faults.nd rfl (by first | exact Or.inl rfl | exact Or.inr rfl)) (pgs_cons (pg_name (i := 3) sc_faults.nd rfl (by first | exact Or.inl rfl | exact Or.inr rfl)) pgs_nil))))
  (pss_one (ps_ret (pe_lc2 (own := [("index", 4), ("told", 5), ("kind", 6)]) (vs1 := [6]) (tt := tYes) (tt1 := tYes) (by rfl) sc_faults.nd (pi_enum (by rfl) T.enumerate (pa_cons (pv 3) pa_nil)) (blkOk_by (N := N_faults) (sc := defScope s_faults) (by decide +kernel)) (by decide) (fun _ _ _ _ _ => (My.pg_tupK (K := K) (n := 2) rfl rfl (pgs_cons (pg_name (i := 4) sc_faults.nd rfl (by first | exact Or.inl rfl | exact Or.inr rfl)) (pgs_cons (pg_name (i := 5) sc_faults.nd rfl (by first | exact Or.inl rfl | exact Or.inr rfl)) pgs_nil)))) (fun _ _ _ _ _ => pts_nil) (fun _ _ _ _ _ => (My.pi_listK (K := K) rfl (My.pe_fldK (K := K) rfl (pv 5) rfl))) (fun _ _ _ _ _ => (pg_name (i := 6) sc_faults.nd rfl (by first | exact Or.inl rfl | exact Or.inr rfl))) (fun _ _ _ _ _ => pts_nil) (fun _ _ _ _ _ => (pe_tup (pa_cons (pv 6) (pa_cons (pv 4) pa_nil))))))))))), ?_⟩
    refine ⟨_, rfl, a, xs, ds, rfl, hS, hD, hP, fun H1 s1 => ?_⟩
    refine ⟨_, rfl, _, rfl, k, a, d, rs, xs, ds, rfl, hk.same s1, hg, s1.seq hS, hD.same s1, hl, fun H2 p b sl hP2 hp hpn => ?_⟩
    obtain ⟨dx, li, dv, dsn, dr, hB, s2, ⟨ts, hts0, htd0, hnd, hfr⟩, hsl0⟩ := hP2
    have hh := hide_same [b, li, dv, dsn, dr] H2
    have hts := hh _ _ hts0
    have htd := paired_map (fun z U _ hz => TdAt.same (fun c o _ e => hh c o e) hz) htd0
    have sH : Same H H2 := s1.trans (s2.trans hh)
    have hrl := runF_len rs d ds
    have hrw := run_w rs d ds
    generalize (runF rs d ds).2.2 = Us at htd hrl hrw q
    have short : ∀ i, (fl 0 (Us.take i)).length ≤ 100000 := fun i => by
      have := fl_len 0 (Us.take i) fun U hU => hrw U (List.mem_of_mem_take hU)
      have h2 : (Us.take i).length ≤ Us.length := by rw [List.length_take]; omega
      omega
    refine ⟨p, _, rfl, SqT.of hp, rfl, _, _, rfl, _, _, rfl, rfl, ?_⟩
    refine ⟨_, rfl, sl, _, rfl, SqL.of hts, fun D hD => ?_⟩
    refine lc2_out (walk_enum (xs := ts.map fun z => V.ref z.1)) (fun i H' => Same H2 H' ∧ ∃ us : List Addr, H' D = some (.lst (us.map V.ref)) ∧ Paired (FItAt H') us (fl 0 (Us.take i))) ⟨same_new hD, [], upd_same, .nil⟩ (fun i H' _ z => SqL.of (z.1 _ _ hts)) ?_ ?_
    · rintro i x H3 H4 hi ⟨s3, us, hD3, hup⟩ ⟨t0, x1, y, rfl, ht0, rfl, e1, hy⟩
      cases e1
      obtain ⟨z, U, hz, hU, rfl, ht⟩ := td_get htd hy
      have s4 : Same H3 (upd H3 t0 (.tup [.int (i : Nat), .ref z.1])) := same_new ht0
      obtain ⟨dt, yb, lw, lm, _, g1, g2, g3, g4, g5⟩ := ht
      have h1 := s4 _ _ (s3 _ _ g1)
      have h4 := s4 _ _ (s3 _ _ g4)
      have nt0D : t0 ≠ D := fun e => by rw [e, hD3] at ht0; cases ht0
      refine ⟨t0, _, rfl, SqT.of upd_same, rfl, _, _, rfl, _, _, rfl, rfl, rfl, ?_⟩
      refine ⟨_, rfl, z.1, _, dt, _, _, rfl, h1, T.cl_Told, T.no_Told_wrongs, rfl, lw, rfl, ⟨_, SqL.of h4⟩, ?_⟩
      refine lc2_in (walk_list (xs := U.wrongs.map V.str)) (fun j H' => Same (upd H3 t0 (.tup [.int (i : Nat), .ref z.1])) (upd H' D (.lst (us.map V.ref))) ∧ Same H2 H' ∧ H' lw = some (.lst (U.wrongs.map V.str)) ∧ ∃ vs : List Addr, H' D = some (.lst (vs.map V.ref)) ∧ Paired (FItAt H') vs (fl 0 (Us.take i) ++ (flW U i).take j)) ?_ (fun j H' _ z => SqL.of z.2.2.1) ?_ ?_
      · refine ⟨?_, s3.trans s4, h4, us, by rw [upd_ne nt0D.symm]; exact hD3, ?_⟩
        · intro c o e
          by_cases hc : c = D
          · subst hc
            rw [upd_ne nt0D.symm, hD3] at e
            rw [upd_same]
            exact e
          · rw [upd_ne hc]; exact e
        · rw [List.take_zero, List.append_nil]
          exact paired_map (fun t x _ hx => s4 _ _ hx) hup
      · rintro j x H5 H6 hj ⟨s5, s52, hlw5, vs, hD5, hvp⟩ ⟨rfl, hx⟩
        obtain ⟨wd, hwd, rfl⟩ := map_get hx
        have hlwD : lw ≠ D := ne_of_none g4 hD
        refine ⟨rfl, ?_⟩
        refine ⟨_, rfl, _, rfl, by show 2 ≤ sizeLine; decide, fun q hq => ?_⟩
        have nqD : q ≠ D := fun e => by rw [e, hD5] at hq; cases hq
        have hlt : j < U.wrongs.length := (List.getElem?_eq_some_iff.mp hwd).1
        have hold : ∀ c o, H6 c = some o → c ≠ D → (upd (upd H6 q (.tup [.str wd, .int (i : Nat)])) D (.lst (vs.map V.ref ++ [.ref q]))) c = some o := fun c o e n => by
          rw [upd_ne n, upd_ne (ne_of_none e hq)]
          exact e
        refine ⟨_, by rw [upd_ne nqD.symm]; exact hD5, ?_, ?_, same_upd (s52.trans (same_new hq)) hD, hold _ _ hlw5 hlwD, vs ++ [q], by rw [upd_same, List.map_append]; rfl, ?_⟩
        · rw [List.length_map, hvp.length, List.length_append]
          have a1 := short i
          have a2 : ((flW U i).take j).length ≤ 2 := by
            have := hrw U (List.mem_of_getElem? hU)
            rw [List.length_take]
            unfold flW
            rw [List.length_map]
            omega
          exact lt_line (by omega)
        · intro c o e
          have e5 := s5 c o e
          by_cases hc : c = D
          · subst hc
            rw [upd_same] at e5 ⊢
            exact e5
          · rw [upd_ne hc] at e5 ⊢
            exact hold _ _ e5 hc
        · have em : (flW U i)[j]? = some (wd, i) := by
            unfold flW
            rw [List.getElem?_map, hwd]
            rfl
          rw [take_more em, ← List.append_assoc]
          refine Paired.snoc (paired_map (fun t x _ hx => hold _ _ hx (ne_of hx hD5 (fun e => by cases e))) hvp) ?_
          show upd (upd H6 q _) D _ q = _
          rw [upd_ne nqD, upd_same]
      · rintro H5 ⟨s5, s52, hlw5, vs, hD5, hvp⟩
        refine ⟨s52, vs, hD5, ?_⟩
        rw [fl_more hU]
        have e9 : (flW U i).take (U.wrongs.map V.str).length = flW U i := List.take_of_length_le (by unfold flW; rw [List.length_map, List.length_map]; exact Nat.le_refl _)
        rw [e9] at hvp
        exact hvp
    · rintro H3 ⟨s3, us, hD3, hup⟩
      rw [List.length_map, htd.length, List.take_length] at hup
      exact q _ D (sH.trans s3) ⟨us, hD3, hup, sH.free hD⟩
theorem c_faults (T : Txt K mg) : C8.Cal P w K mg base 8 "faults" (sp_faults K) [] := by
  obtain ⟨fd, F⟩ := T.f_faults
  exact ⟨_, fd, _, _, ok_faults T F, T.g_faults, F.kp, F.bindsN (fun _ _ _ _ _ _ us hl => match us, hl with | [_, _], _ => rfl), .nil⟩
theorem k_faults (T : Txt K mg) : My.CalK2 P w K mg base 8 "faults" (sp_faults K) "book" "deeds" := by
  obtain ⟨fd, F⟩ := T.f_faults
  exact ⟨_, fd, ok_faults T F, T.g_faults, F.kp, My.kw2_of F (fun _ _ _ _ _ _ _ _ => rfl)⟩
end
end K32

namespace K32
open PySem PySem.Spec PyProof.Rows L2 My
/-! ### data -/
theorem dp_flatInts (K : PySem.W.Frag) (H : Hp) : ∀ l : List Int, DpAll K H (l.map V.int) (l.map PyData.int)
  | [] => .nil
  | a :: l => .cons (.int a) (dp_flatInts K H l)
theorem lay_ints : ∀ l : List Int, PyData.canLayAll0 (l.map PyData.int) = true
  | [] => rfl
  | a :: l => by
    show (true && PyData.canLayAll0 (l.map PyData.int)) = true
    rw [lay_ints l]
    rfl
theorem dep_ints : ∀ l : List Int, PyData.depthAll (l.map PyData.int) = 0
  | [] => rfl
  | a :: l => by
    show max 0 (PyData.depthAll (l.map PyData.int)) = 0
    rw [dep_ints l]
    rfl
/-- data that may be compared: laid out, of small depth -/
structure Sm (n : Nat) (d : PyData) : Prop where
  lay : d.canLay0 = true
  dep : d.depth ≤ n
theorem Sm.shaped {n : Nat} {d : PyData} (h : Sm n d) (e : n ≤ 64) : SeqAt.shaped d = true := Bool.and_eq_true_iff.mpr ⟨h.lay, decide_eq_true (Nat.le_trans h.dep e)⟩
theorem Sm.refl {n : Nat} {d : PyData} (h : Sm n d) : PyData.eqv d d = true := SeqAt.eqv_refl d h.lay
theorem sm_int (i : Int) : Sm 0 (.int i) := ⟨rfl, Nat.le_refl _⟩
theorem sm_bool (i : Bool) : Sm 0 (.bool i) := ⟨rfl, Nat.le_refl _⟩
theorem sm_none : Sm 0 .none := ⟨rfl, Nat.le_refl _⟩
theorem lay_all : ∀ {ds : List PyData} {n : Nat}, (∀ d ∈ ds, Sm n d) → PyData.canLayAll0 ds = true ∧ PyData.depthAll ds ≤ n
  | [], n, _ => ⟨rfl, Nat.zero_le _⟩
  | d :: ds, n, h => by
    obtain ⟨h1, h2⟩ := lay_all (ds := ds) fun x hx => h x (List.mem_cons_of_mem _ hx)
    have h3 := h d (List.mem_cons_self ..)
    refine ⟨Bool.and_eq_true_iff.mpr ⟨h3.lay, h1⟩, ?_⟩
    show max d.depth (PyData.depthAll ds) ≤ n
    exact Nat.max_le.mpr ⟨h3.dep, h2⟩
theorem sm_list {ds : List PyData} {n : Nat} (h : ∀ d ∈ ds, Sm n d) : Sm (n + 1) (.list ds) := ⟨(lay_all h).1, Nat.succ_le_succ (lay_all h).2⟩
theorem sm_tuple {ds : List PyData} {n : Nat} (h : ∀ d ∈ ds, Sm n d) : Sm (n + 1) (.tuple ds) := ⟨(lay_all h).1, Nat.succ_le_succ (lay_all h).2⟩
theorem Sm.mono {n m : Nat} {d : PyData} (h : Sm n d) (e : n ≤ m) : Sm m d := ⟨h.lay, Nat.le_trans h.dep e⟩
theorem sm_ints (l : List Int) : Sm 1 (.list (l.map PyData.int)) := sm_list fun d hd => by
  obtain ⟨i, _, rfl⟩ := List.mem_map.mp hd
  exact sm_int i
def repD (U : ToldS) : PyData := .tuple [.list (U.letters.map PyData.int), .bool U.opened, .list (U.got.map PyData.int)]
theorem sm_rep (U : ToldS) : Sm 2 (repD U) := sm_tuple fun d hd => by
  simp only [List.mem_cons, List.not_mem_nil, or_false] at hd
  rcases hd with rfl | rfl | rfl
  · exact sm_ints _
  · exact (sm_bool _).mono (by decide)
  · exact sm_ints _
theorem sm_reps (Us : List ToldS) : Sm 3 (.list (Us.map repD)) := sm_list fun d hd => by
  obtain ⟨i, _, rfl⟩ := List.mem_map.mp hd
  exact sm_rep i
theorem dp_it {K : PySem.W.Frag} {H : Hp} {z : Addr × Addr × Addr} {U : ToldS} (h : ItAt H z U) : Dp K H (.ref z.1) (repD U) := by
  obtain ⟨h1, h2, h3⟩ := h
  exact .tup (SqT.of h1) (.cons (.lst (SqL.of h2) (dp_flatInts K H _)) (.cons (.bl _) (.cons (.lst (SqL.of h3) (dp_flatInts K H _)) .nil)))
theorem dp_its {K : PySem.W.Frag} {H : Hp} : ∀ {rs : List (Addr × Addr × Addr)} {Us : List ToldS}, Paired (ItAt H) rs Us → DpAll K H (rs.map fun z => V.ref z.1) (Us.map repD)
  | _, _, .nil => .nil
  | _, _, .cons r t => .cons (dp_it r) (dp_its t)
/-- a list of reports, however it is made -/
def DueAt (H : Hp) (u : Addr) (Us : List ToldS) : Prop := ∃ rs : List (Addr × Addr × Addr), H u = some (.lst (rs.map fun z => V.ref z.1)) ∧ Paired (ItAt H) rs Us
theorem DueAt.dp {K : PySem.W.Frag} {H : Hp} {u : Addr} {Us : List ToldS} (h : DueAt H u Us) : Dp K H (.ref u) (.list (Us.map repD)) := by
  obtain ⟨rs, h1, h2⟩ := h
  exact .lst (SqL.of h1) (dp_its h2)
theorem ItAt.same {H H' : Hp} {z : Addr × Addr × Addr} {U : ToldS} (s : Same H H') (h : ItAt H z U) : ItAt H' z U := ⟨s _ _ h.1, s _ _ h.2.1, s _ _ h.2.2⟩
theorem DueAt.same {H H' : Hp} {u : Addr} {Us : List ToldS} (s : Same H H') (h : DueAt H u Us) : DueAt H' u Us := by
  obtain ⟨rs, h1, h2⟩ := h
  exact ⟨rs, s _ _ h1, paired_map (fun z U _ hz => hz.same s) h2⟩
theorem RepAt.due {H0 H : Hp} {p : Addr} {Us : List ToldS} (h : RepAt H0 H p Us) : DueAt H p Us := by
  obtain ⟨rs, h1, h2, _⟩ := h
  exact ⟨rs, h1, h2⟩
theorem sok {x : Str} (h : PyData.canLay0 (.str x) = true) : Sm 0 (.str x) := ⟨h, Nat.le_refl _⟩
def deedD : Deed → PyData
  | .bring l s => .tuple [.str "bring", .bool l, .bool s]
  | .code p t s => .tuple [.str "code", .int p, .bool t, .bool s]
  | .pass => .tuple [.str "pass"]
  | .day => .tuple [.str "day"]
  | .power => .tuple [.str "power"]
theorem sm_deed (d : Deed) : Sm 1 (deedD d) := by
  cases d with
  | bring l s =>
    refine sm_tuple fun d hd => ?_
    simp only [List.mem_cons, List.not_mem_nil, or_false] at hd
    rcases hd with rfl | rfl | rfl
    · exact sok (by decide +kernel)
    · exact sm_bool _
    · exact sm_bool _
  | code p t s =>
    refine sm_tuple fun d hd => ?_
    simp only [List.mem_cons, List.not_mem_nil, or_false] at hd
    rcases hd with rfl | rfl | rfl | rfl
    · exact sok (by decide +kernel)
    · exact sm_int _
    · exact sm_bool _
    · exact sm_bool _
  | _ =>
    refine sm_tuple fun d hd => ?_
    simp only [List.mem_cons, List.not_mem_nil, or_false] at hd
    rcases hd with rfl
    exact sok (by decide +kernel)
theorem dp_deed {K : PySem.W.Frag} {H : Hp} {v : V} {d : Deed} (h : DeedAt K H v d) : Dp K H v (deedD d) := by
  obtain ⟨a, rfl, h⟩ := h
  cases d with
  | bring l s => exact .tup h (.cons (.str _) (.cons (.bl _) (.cons (.bl _) .nil)))
  | code p t s => exact .tup h (.cons (.str _) (.cons (.int _) (.cons (.bl _) (.cons (.bl _) .nil))))
  | pass => exact .tup h (.cons (.str _) .nil)
  | day => exact .tup h (.cons (.str _) .nil)
  | power => exact .tup h (.cons (.str _) .nil)
theorem dp_deeds {K : PySem.W.Frag} {H : Hp} : ∀ {xs : List V} {ds : List Deed}, DeedsAt K H xs ds → DpAll K H xs (ds.map deedD)
  | _, _, .nil => .nil
  | _, _, .cons r t => .cons (dp_deed r) (dp_deeds t)
theorem sm_deeds (ds : List Deed) : Sm 2 (.list (ds.map deedD)) := sm_list fun d hd => by
  obtain ⟨i, _, rfl⟩ := List.mem_map.mp hd
  exact sm_deed i
theorem nilD {K : PySem.W.Frag} {H : Hp} {a : Addr} (h : H a = some (.lst [])) : Dp K H (.ref a) (.list []) := .lst (SqL.of h) .nil
theorem sm_nil : Sm 1 (.list []) := sm_list fun d hd => by cases hd
section
variable {P : Program} {w : World} {K : PySem.W.Frag} {mg : Str → Option Value} {base : Heap}
def sp_law_is_whole (K : PySem.W.Frag) : Sp := fun vs H Q _ => ∃ n : Int, vs = [.int n] ∧ Q (.bl true) H
def sp_law_is_report (K : PySem.W.Frag) : Sp := fun vs H Q _ => ∃ (z : Addr × Addr × Addr) (U : ToldS), vs = [.ref z.1] ∧ ItAt H z U ∧ U.letters.length + U.got.length ≤ 2000000 ∧ ∀ H', Same H H' → Q (.bl true) H'
end
end K32

namespace K32
open PySem PySem.Spec PyProof.Rows L2 My StX
section
variable {P : Program} {w : World} {K : PySem.W.Frag} {mg : Str → Option Value} {base : Heap}
/-- a book of a number and a list of eight rules, made by place, by name and by with_rule -/
def sp_law_made (K : PySem.W.Frag) : Sp := fun vs H Q _ => ∃ (b : Addr) (d : Int) (as : List Addr) (rs : List RuleL), vs = [.int d, .ref b] ∧ SqL K H b (as.map V.ref) ∧ 1 ≤ d ∧ d ≤ 30 ∧ Paired (RuleAt K H) as rs ∧ rs.length = 8 ∧ (∀ r ∈ rs, GoodRule r) ∧
  ∀ H' p, H p = none → Same H H' → BookAt K H' p d rs → Q (.ref p) H'
theorem len8b {rs : List RuleL} (e : rs.length = 8) : ∃ r0 r1 r2 r3 r4 r5 r6 r7, rs = [r0, r1, r2, r3, r4, r5, r6, r7] := by
  match rs, e with
  | [a0, a1, a2, a3, a4, a5, a6, a7], _ => exact ⟨a0, a1, a2, a3, a4, a5, a6, a7, rfl⟩
theorem paired_cons {α β : Type} {F : α → β → Prop} {a : α} {b : β} {l : List α} {m : List β} (h : Paired F (a :: l) (b :: m)) : F a b ∧ Paired F l m := by
  cases h with
  | cons r t => exact ⟨r, t⟩
set_option maxHeartbeats 2000000 in
theorem ok_law_made (T : Txt K mg) {fd : FuncData} (F : FunD K d_law_made.name d_law_made.qual d_law_made.params d_law_made.body d_law_made.scope (d_law_made.dvs K) (d_law_made.kws K) (He.fAd K d_law_made.at_) fd) : FnOk P w K mg base C8.CX0 6 (He.fAd K d_law_made.at_) fd ["limit", "rules"] (sp_law_made K) := by
  have c_Book_with_rule := c_Book_with_rule (P := P) (w := w) (base := base) T
  have kn_Book_init := kn_Book_init (P := P) (w := w) (base := base) T
  refine F.ok sc_law_made (fun vs H Q E h => ?_) (fun cdv A outer s H vs Q E hr h => ?_)
  · obtain ⟨b, d, as, rs, rfl, _⟩ := h
    rfl
  · have hu := L2.hu_of hr
    obtain ⟨b, d, as, rs, rfl, hb, h1, h2, h3, h4, h5, q⟩ := h
    refine ⟨_, (PSs.nox ((pss_cons (ps_set (i := 2) sc_law_made.nd rfl (by first | exact Or.inl rfl | exact Or.inr rfl) (My.pe_mkN kn_Book_init hr (by decide) rfl (pa_cons (pv 0) (pa_cons (pe_ix (My.ix_listK (K := K) rfl) (pv 1) pe_int (fun _ _ => rfl)) (pa_cons (pe_ix (My.ix_listK (K := K) rfl) (pv 1) pe_int (fun _ _ => rfl)) (pa_cons (pe_ix (My.ix_listK (K := K) rfl) (pv 1) pe_int (fun _ _ => rfl)) pa_nil)))) (pk_cons (pe_ix (My.ix_listK (K := K) rfl) (pv 1) pe_int (fun _ _ => rfl)) (pk_cons (pe_ix (My.ix_listK (K := K) rfl) (pv 1) pe_int (fun _ _ => rfl)) (pk_cons (pe_ix (My.ix_listK (K := K) rfl) (pv 1) pe_int (fun _ _ => rfl)) pk_nil)))))
  (pss_one (ps_ret (C8.pe_mt c_Book_with_rule hr (by decide) (C8.pe_mt c_Book_with_rule hr (by decide) (pv 2) (pa_cons pe_str (pa_cons (pe_ix (My.ix_listK (K := K) rfl) (pv 1) pe_int (fun _ _ => rfl)) pa_nil))) (pa_cons pe_str (pa_cons (pe_ix (My.ix_listK (K := K) rfl) (pv 1) pe_int (fun _ _ => rfl)) pa_nil)))))))), ?_⟩
    obtain ⟨a0, a1, a2, a3, a4, a5, a6, a7, rfl⟩ := len8 h3 h4
    obtain ⟨r0, r1, r2, r3, r4, r5, r6, r7, rfl⟩ := len8b h4
    refine ⟨_, rfl, ?_⟩
    iterate 6 refine ⟨_, rfl, b, _, _, _, rfl, rfl, hb, rfl, ?_⟩
    refine ⟨rfl, rfl, ?_⟩
    intro x dx nx ndx nex
    have s0 : Same H (upd (upd H dx (.own x)) x (.ins (He.ga K "Book") dx [])) := (same_new ndx).trans (same_upd (Same.refl _) (by rw [upd_ne nex.symm]; exact nx))
    obtain ⟨q0, g0⟩ := paired_cons h3
    obtain ⟨q1, g1⟩ := paired_cons g0
    obtain ⟨q2, g2⟩ := paired_cons g1
    obtain ⟨q3, g3⟩ := paired_cons g2
    obtain ⟨q4, g4⟩ := paired_cons g3
    obtain ⟨q5, g5⟩ := paired_cons g4
    obtain ⟨q6, g6⟩ := paired_cons g5
    obtain ⟨q7, g7⟩ := paired_cons g6
    have gg : ∀ r ∈ [r0, r1, r2, r3, r4, r5, [], []], GoodRule r := fun r hr => by
      simp only [List.mem_cons, List.not_mem_nil, or_false] at hr
      rcases hr with rfl | rfl | rfl | rfl | rfl | rfl | rfl | rfl
      · exact h5 _ (by simp)
      · exact h5 _ (by simp)
      · exact h5 _ (by simp)
      · exact h5 _ (by simp)
      · exact h5 _ (by simp)
      · exact h5 _ (by simp)
      · exact ⟨Nat.zero_le _, fun x hx => (by cases hx)⟩
      · exact ⟨Nat.zero_le _, fun x hx => (by cases hx)⟩
    refine ⟨x, dx, d, [a0, a1, a2, a3, a4, a5, He.dflAt ("Book", some "__init__") 6 K, He.dflAt ("Book", some "__init__") 7 K], [r0, r1, r2, r3, r4, r5, [], []], rfl, upd_same, h1, h2, ?_, rfl, gg, fun H' t bt hx ht => ⟨rfl, ?_⟩⟩
    · exact .cons (same_tup s0 q0) (.cons (same_tup s0 q1) (.cons (same_tup s0 q2) (.cons (same_tup s0 q3) (.cons (same_tup s0 q4) (.cons (same_tup s0 q5) (.cons (T.dfl_Book_init_6 _) (.cons (T.dfl_Book_init_7 _) .nil)))))))
    have s1 : Same H H' := fun c o e => bt c o (by simpa using ne_of_none e nx) (s0 _ _ e)
    have hB : BookAt K H' x d [r0, r1, r2, r3, r4, r5, [], []] := ⟨dx, t, _, hx, SqT.of ht, .cons (same_tup s1 q0) (.cons (same_tup s1 q1) (.cons (same_tup s1 q2) (.cons (same_tup s1 q3) (.cons (same_tup s1 q4) (.cons (same_tup s1 q5) (.cons (T.dfl_Book_init_6 _) (.cons (T.dfl_Book_init_7 _) .nil))))))), rfl⟩
    refine ⟨_, rfl, x, dx, _, rfl, hx, rfl, _, rfl, b, _, _, _, rfl, rfl, s1.seq hb, rfl, ?_⟩
    refine ⟨x, a6, d, [r0, r1, r2, r3, r4, r5, [], []], "late", 6, r6, rfl, hB, rfl, same_tup s1 q6, h5 _ (by simp), gg, h1, h2, fun H2 p2 n2 s2 hB2 => ?_⟩
    obtain ⟨dx2, t2, as2, hx2, hrest⟩ := id hB2
    have s02 := s1.trans s2
    refine ⟨p2, dx2, _, rfl, hx2, rfl, _, rfl, b, _, _, _, rfl, rfl, s02.seq hb, rfl, ?_⟩
    refine ⟨p2, a7, d, _, "power", 7, r7, rfl, hB2, rfl, same_tup s02 q7, h5 _ (by simp), fun r hr => ?_, h1, h2, fun H3 p3 n3 s3 hB3 => ?_⟩
    · have hr2 : r ∈ [r0, r1, r2, r3, r4, r5, r6, []] := hr
      simp only [List.mem_cons, List.not_mem_nil, or_false] at hr2
      rcases hr2 with rfl | rfl | rfl | rfl | rfl | rfl | rfl | rfl
      · exact h5 _ (by simp)
      · exact h5 _ (by simp)
      · exact h5 _ (by simp)
      · exact h5 _ (by simp)
      · exact h5 _ (by simp)
      · exact h5 _ (by simp)
      · exact h5 _ (by simp)
      · exact ⟨Nat.zero_le _, fun x hx => (by cases hx)⟩
    exact q _ p3 (s02.free n3) (s02.trans s3) hB3
theorem c_law_made (T : Txt K mg) : C8.Cal P w K mg base 6 "_law_made" (sp_law_made K) [] := by
  obtain ⟨fd, F⟩ := T.f_law_made
  exact ⟨_, fd, _, _, ok_law_made T F, T.g_law_made, F.kp, F.bindsN (fun _ _ _ _ _ _ us hl => match us, hl with | [_, _], _ => rfl), .nil⟩
end
end K32

namespace K32
open PySem PySem.Spec PyProof.Rows L2 My StX
theorem new_rule {K : PySem.W.Frag} {H : Hp} {t : Addr} {r : RuleL} (h : H t = none) : Same H (upd H t (.tup (r.map V.str))) ∧ RuleAt K (upd H t (.tup (r.map V.str))) t r := ⟨same_new h, SqT.of upd_same⟩
theorem new_refs {H : Hp} {t : Addr} {as : List Addr} (h : H t = none) : Same H (upd H t (.lst (as.map V.ref))) ∧ upd H t (.lst (as.map V.ref)) t = some (.lst (as.map V.ref)) := ⟨same_new h, upd_same⟩
abbrev rulesA : List RuleL := [["void", "full"], ["look", "code"], ["lock", "look", "code"], [], ["look"], ["lock", "look"], [], []]
abbrev rulesB : List RuleL := [["full"], ["code", "free"], ["code"], [], ["free"], ["free"], ["full", "code"], []]
theorem good_by {r : RuleL} (h : (decide (r.length ≤ 6) && r.all fun x => decide (x ∈ acts)) = true) : GoodRule r := by
  obtain ⟨h1, h2⟩ := Bool.and_eq_true_iff.mp h
  exact ⟨of_decide_eq_true h1, fun x hx => of_decide_eq_true (List.all_eq_true.mp h2 x hx)⟩
theorem good_all {rs : List RuleL} (h : (rs.all fun r => decide (r.length ≤ 6) && r.all fun x => decide (x ∈ acts)) = true) : ∀ r ∈ rs, GoodRule r := fun r hr => good_by (List.all_eq_true.mp h r hr)
section
variable {P : Program} {w : World} {K : PySem.W.Frag} {mg : Str → Option Value} {base : Heap}
def sp_law_rules (K : PySem.W.Frag) : Sp := fun vs H Q _ => ∃ (a : Addr) (n : Nat), vs = [.ref a] ∧ SpringAt H a n ∧ n ≤ 500 ∧
  ∀ H' p as rs, But [a] H H' → SpringAt H' a (n + 90) → H' p = some (.lst (as.map V.ref)) → H p = none → Paired (RuleAt K H') as rs → rs.length = 8 → (∀ r ∈ rs, GoodRule r) → Q (.ref p) H'
theorem rawS {H H' : Hp} {a b : Addr} {n : Nat} {o : HO} (s : But [a] H H') (h : SpringAt H a n) (t : H b = some o) (no : ∀ i r, o ≠ .lst (.int i :: r)) : H' b = some o := s _ _ (by simpa using (h.ne t no).symm) t
theorem tupU {K : PySem.W.Frag} {H : Hp} {D b : Addr} {l xs : List V} {o : HO} (h : H D = some (.lst l)) (t : SqT K H b xs) : SqT K (upd H D o) b xs := by
  rcases t with (t | ⟨o, t⟩) | t
  · exact .inl (.inl (by rw [upd_ne (ne_of t h (fun z => by cases z))]; exact t))
  · exact .inl (.inr ⟨o, by rw [upd_ne (ne_of t h (fun z => by cases z))]; exact t⟩)
  · exact .inr t
structure RulesSt (K : PySem.W.Frag) (a wa D : Addr) (H H' : Hp) (m : Nat) (as : List Addr) (rs : List RuleL) : Prop where
  b : But [a] H H'
  s : SpringAt H' a m
  w : H' wa = some (.lst (acts.map V.str))
  d : H' D = some (.lst (as.map V.ref))
  d0 : H D = none
  pr : Paired (RuleAt K H') as rs
  len : rs.length = 8
  good : ∀ r ∈ rs, GoodRule r
  nw : wa ≠ D
theorem RulesSt.draw {a wa D : Addr} {H H1 H2 : Hp} {m m2 : Nat} {as : List Addr} {rs : List RuleL} (h : RulesSt K a wa D H H1 m as rs) (b : But [a] H1 H2) (s : SpringAt H2 a m2) : RulesSt K a wa D H H2 m2 as rs :=
  ⟨h.b.trans b, s, rawS b h.s h.w (strs_no _), rawS b h.s h.d (refs_no _), h.d0, paired_map (fun x y _ hx => But.tupS b h.s hx) h.pr, h.len, h.good, h.nw⟩
set_option maxHeartbeats 2000000 in
theorem ok_law_rules (T : Txt K mg) {fd : FuncData} (F : FunD K d_law_rules.name d_law_rules.qual d_law_rules.params d_law_rules.body d_law_rules.scope (d_law_rules.dvs K) (d_law_rules.kws K) (He.fAd K d_law_rules.at_) fd) : FnOk P w K mg base C8.CX0 3 (He.fAd K d_law_rules.at_) fd ["spring"] (sp_law_rules K) := by
  have c_law_drop := c_law_drop (P := P) (w := w) (base := base) T
  have c_law_rule := c_law_rule (P := P) (w := w) (base := base) T
  refine F.ok sc_law_rules (fun vs H Q E h => ?_) (fun cdv A outer s H vs Q E hr h => ?_)
  · obtain ⟨a, n, rfl, _⟩ := h
    rfl
  · have hu := L2.hu_of hr
    obtain ⟨a, n, rfl, hs, hn, q⟩ := h
    refine ⟨_, (PSs.nox ((pss_cons (ps_set (i := 1) sc_law_rules.nd rfl (by first | exact Or.inl rfl | exact Or.inr rfl) (pe_lst (pa_cons pe_str (pa_cons pe_str (pa_cons pe_str (pa_cons pe_str (pa_cons pe_str (pa_cons pe_str (pa_cons pe_str pa_nil)))))))))
  (pss_cons (ps_set (i := 2) sc_law_rules.nd rfl (by first | exact Or.inl rfl | exact Or.inr rfl) (pe_lst (pa_cons (pe_tup (pa_cons pe_str (pa_cons pe_str pa_nil))) (pa_cons (pe_tup (pa_cons pe_str (pa_cons pe_str pa_nil))) (pa_cons (pe_tup (pa_cons pe_str (pa_cons pe_str (pa_cons pe_str pa_nil)))) (pa_cons (pe_tup pa_nil) (pa_cons (pe_tup (pa_cons pe_str pa_nil)) (pa_cons (pe_tup (pa_cons pe_str (pa_cons pe_str pa_nil))) (pa_cons (pe_tup pa_nil) (pa_cons (pe_tup pa_nil) pa_nil))))))))))
  (pss_cons (ps_if (pt_cmpR op_eq (C8.pe_c c_law_drop hr (by decide) rfl (pa_cons (pv 0) (pa_cons pe_int pa_nil))) pe_int (nomark _))
  (pss_one (ps_set (i := 2) sc_law_rules.nd rfl (by first | exact Or.inl rfl | exact Or.inr rfl) (pe_lst (pa_cons (pe_tup (pa_cons pe_str pa_nil)) (pa_cons (pe_tup (pa_cons pe_str (pa_cons pe_str pa_nil))) (pa_cons (pe_tup (pa_cons pe_str pa_nil)) (pa_cons (pe_tup pa_nil) (pa_cons (pe_tup (pa_cons pe_str pa_nil)) (pa_cons (pe_tup (pa_cons pe_str pa_nil)) (pa_cons (pe_tup (pa_cons pe_str (pa_cons pe_str pa_nil))) (pa_cons (pe_tup pa_nil) pa_nil)))))))))))
  pss_nil)
  (pss_cons (ps_for PassesOwn.never rfl (pi_range1 (by rfl) T.range (pa_cons (C8.pe_c c_law_drop hr (by decide) rfl (pa_cons (pv 0) (pa_cons pe_int pa_nil))) pa_nil)) (pg_name (i := 3) sc_law_rules.nd rfl (by first | exact Or.inl rfl | exact Or.inr rfl))
  (pss_one (ps_asg (C8.pe_c c_law_rule hr (by decide) rfl (pa_cons (pv 0) (pa_cons (pv 1) (pa_cons pe_int pa_nil)))) (pg_sub (pv 2) (C8.pe_c c_law_drop hr (by decide) rfl (pa_cons (pv 0) (pa_cons pe_int pa_nil))) set_list))))
  (pss_one (ps_ret (pv 2))))))))), ?_⟩
    refine ⟨by show 7 ≤ sizeLine; decide, fun wa hwa => ?_⟩
    have sw := same_new (o := .lst (acts.map V.str)) hwa
    refine ⟨by show 2 ≤ sizeLine; decide, fun t0 ht0 => ⟨by show 2 ≤ sizeLine; decide, fun t1 ht1 => ⟨by show 3 ≤ sizeLine; decide, fun t2 ht2 => ⟨by show 0 ≤ sizeLine; decide, fun t3 ht3 => ⟨by show 1 ≤ sizeLine; decide, fun t4 ht4 => ⟨by show 2 ≤ sizeLine; decide, fun t5 ht5 => ⟨by show 0 ≤ sizeLine; decide, fun t6 ht6 => ⟨by show 0 ≤ sizeLine; decide, fun t7 ht7 => ⟨by show 8 ≤ sizeLine; decide, fun tD htD => ?_⟩⟩⟩⟩⟩⟩⟩⟩⟩
    have nt0 := new_rule (K := K) (r := ["void", "full"]) ht0
    have nt1 := new_rule (K := K) (r := ["look", "code"]) ht1
    have nt2 := new_rule (K := K) (r := ["lock", "look", "code"]) ht2
    have nt3 := new_rule (K := K) (r := []) ht3
    have nt4 := new_rule (K := K) (r := ["look"]) ht4
    have nt5 := new_rule (K := K) (r := ["lock", "look"]) ht5
    have nt6 := new_rule (K := K) (r := []) ht6
    have nt7 := new_rule (K := K) (r := []) ht7
    have ntD := new_refs (as := [t0, t1, t2, t3, t4, t5, t6, t7]) htD
    have et7 := ntD.1
    have et6 := nt7.1.trans et7
    have et5 := nt6.1.trans et6
    have et4 := nt5.1.trans et5
    have et3 := nt4.1.trans et4
    have et2 := nt3.1.trans et3
    have et1 := nt2.1.trans et2
    have et0 := nt1.1.trans et1
    have allt := nt0.1.trans et0
    have pret := (nt0.1.trans (nt1.1.trans (nt2.1.trans (nt3.1.trans (nt4.1.trans (nt5.1.trans (nt6.1.trans nt7.1)))))))
    have prt : Paired (RuleAt K _) [t0, t1, t2, t3, t4, t5, t6, t7] rulesA := .cons (same_tup et0 nt0.2) (.cons (same_tup et1 nt1.2) (.cons (same_tup et2 nt2.2) (.cons (same_tup et3 nt3.2) (.cons (same_tup et4 nt4.2) (.cons (same_tup et5 nt5.2) (.cons (same_tup et6 nt6.2) (.cons (same_tup et7 nt7.2) (.nil))))))))
    have h1 := sw.trans allt
    have hs1 := hs.same h1
    have hw1 := allt _ _ (show upd H wa (.lst (acts.map V.str)) wa = some (.lst (acts.map V.str)) from upd_same)
    have htD0 : H tD = none := (sw.trans pret).free htD
    have lt100 : ∀ m : Nat, m ≤ 1000 → m < 2 ^ 100 := fun m h => Nat.lt_of_le_of_lt h (by decide)
    have lt99 : ∀ m : Nat, m ≤ 1000 → m < 2 ^ 99 := fun m h => Nat.lt_of_le_of_lt h (by decide)
    have rest : ∀ (D : Addr) (Hs : Hp) (as : List Addr) (rs : List RuleL), RulesSt K a wa D H Hs (n + 1) as rs →
        (tSeq (tFor (iRng1 (tCons (tCall (sp_law_drop K) [] C8.E0 (tCons (tVar 0) (tCons (tC (V.int 10)) tNil))) tNil)) (gName 3)
          (tAsg (tCall (sp_law_rule K) [] C8.E0 (tCons (tVar 0) (tCons (tVar 1) (tCons (tC (V.int 6)) tNil)))) (gSub (tVar 2) (tCall (sp_law_drop K) [] C8.E0 (tCons (tVar 0) (tCons (tC (V.int 8)) tNil))) rSetL)))
          (tRet (tVar 2))) { nx := fun _ H' => Q .non H', rt := Q } [some (.ref a), some (.ref wa), some (.ref D), none] Hs := by
      intro D Hs as rs st
      refine ⟨_, rfl, a, n + 1, 10, rfl, st.s, lt100 _ (by omega), by decide, by decide, fun H3 k b3 s3 k0 k1 => ⟨k, rfl, by omega, by omega, ?_⟩⟩
      refine for_range (lo := 0) (n := k.toNat) (fun i σ H' => ∃ (o : Option V) (as : List Addr) (rs : List RuleL), σ = [some (.ref a), some (.ref wa), some (.ref D), o] ∧ RulesSt K a wa D H H' (n + 2 + 8 * i) as rs) ⟨_, _, _, rfl, st.draw b3 s3⟩ ?_ ?_
      · rintro i σ H4 hi ⟨o, as, rs, rfl, st4⟩
        refine ⟨_, rfl, _, rfl, a, wa, n + 2 + 8 * i, acts, 6, rfl, st4.s, SqL.of st4.w, by simp [acts], by show 7 ≤ 100; decide, by decide, lt99 _ (by omega), fun H5 p r b5 s5 hr hl hm => ?_⟩
        have st5 := st4.draw b5 s5
        refine ⟨_, rfl, _, rfl, a, _, 8, rfl, st5.s, lt100 _ (by omega), by decide, by decide, fun H6 k6 b6 s6 k60 k61 => ?_⟩
        have st6 := st5.draw b6 s6
        obtain ⟨j, rfl⟩ : ∃ j : Nat, k6 = (j : Int) := ⟨k6.toNat, by omega⟩
        have hj : j < 8 := by omega
        have hal : as.length = 8 := st6.pr.length.trans st6.len
        have es : (as.map V.ref).set j (.ref p) = (as.set j p).map V.ref := by rw [List.map_set]
        refine ⟨D, _, _, j, rfl, rfl, st6.d, ixN_nat (by rw [List.length_map, hal]; exact hj), _, as.set j p, rs.set j r, rfl, ?_⟩
        rw [es]
        have hr6 : RuleAt K H6 p r := But.tupS b6 s5 hr
        refine ⟨st6.b.put (.inl st6.d0), ?_, ?_, upd_same, st6.d0, paired_set j (paired_map (fun x y _ hx => tupU st6.d hx) st6.pr) (tupU st6.d hr6), by rw [List.length_set]; exact st6.len, fun y hy => ?_, st6.nw⟩
        · exact (st6.s.put (st6.s.ne st6.d (refs_no _))).mono (by omega)
        · rw [upd_ne st6.nw]; exact st6.w
        · rcases List.mem_or_eq_of_mem_set hy with hy | hy
          · exact st6.good y hy
          · rw [hy]; exact ⟨hl, hm⟩
      · rintro σ H4 ⟨o, as, rs, rfl, st4⟩
        exact ⟨_, rfl, q _ D as rs st4.b (st4.s.mono (by omega)) st4.d st4.d0 st4.pr st4.len st4.good⟩
    refine ⟨_, rfl, a, n, 3, rfl, hs1, lt100 _ (by omega), by decide, by decide, fun H2 k b2 s2 k0 k1 => ⟨rfl, _, rfl, L2.ite2 (fun c => ?_) (fun c => ?_)⟩⟩
    · have hw2 := rawS b2 hs1 hw1 (strs_no _)
      refine ⟨by show 1 ≤ sizeLine; decide, fun u0 hu0 => ⟨by show 2 ≤ sizeLine; decide, fun u1 hu1 => ⟨by show 1 ≤ sizeLine; decide, fun u2 hu2 => ⟨by show 0 ≤ sizeLine; decide, fun u3 hu3 => ⟨by show 1 ≤ sizeLine; decide, fun u4 hu4 => ⟨by show 1 ≤ sizeLine; decide, fun u5 hu5 => ⟨by show 2 ≤ sizeLine; decide, fun u6 hu6 => ⟨by show 0 ≤ sizeLine; decide, fun u7 hu7 => ⟨by show 8 ≤ sizeLine; decide, fun uD huD => ?_⟩⟩⟩⟩⟩⟩⟩⟩⟩
      have nu0 := new_rule (K := K) (r := ["full"]) hu0
      have nu1 := new_rule (K := K) (r := ["code", "free"]) hu1
      have nu2 := new_rule (K := K) (r := ["code"]) hu2
      have nu3 := new_rule (K := K) (r := []) hu3
      have nu4 := new_rule (K := K) (r := ["free"]) hu4
      have nu5 := new_rule (K := K) (r := ["free"]) hu5
      have nu6 := new_rule (K := K) (r := ["full", "code"]) hu6
      have nu7 := new_rule (K := K) (r := []) hu7
      have nuD := new_refs (as := [u0, u1, u2, u3, u4, u5, u6, u7]) huD
      have eu7 := nuD.1
      have eu6 := nu7.1.trans eu7
      have eu5 := nu6.1.trans eu6
      have eu4 := nu5.1.trans eu5
      have eu3 := nu4.1.trans eu4
      have eu2 := nu3.1.trans eu3
      have eu1 := nu2.1.trans eu2
      have eu0 := nu1.1.trans eu1
      have allu := nu0.1.trans eu0
      have preu := (nu0.1.trans (nu1.1.trans (nu2.1.trans (nu3.1.trans (nu4.1.trans (nu5.1.trans (nu6.1.trans nu7.1)))))))
      have pru : Paired (RuleAt K _) [u0, u1, u2, u3, u4, u5, u6, u7] rulesB := .cons (same_tup eu0 nu0.2) (.cons (same_tup eu1 nu1.2) (.cons (same_tup eu2 nu2.2) (.cons (same_tup eu3 nu3.2) (.cons (same_tup eu4 nu4.2) (.cons (same_tup eu5 nu5.2) (.cons (same_tup eu6 nu6.2) (.cons (same_tup eu7 nu7.2) (.nil))))))))
      have huD0 : H uD = none := (But.trans (But.of h1) (But.trans b2 (But.of preu))).none (by
        intro z
        rw [List.mem_singleton.mp z] at huD
        obtain ⟨_, _, _, g, _⟩ := (s2.same preu)
        exact absurd (g.symm.trans huD) (by intro q; cases q)) huD
      exact rest uD _ _ rulesB ⟨(But.of h1).trans (b2.trans (But.of allu)), s2.same allu, allu _ _ hw2, nuD.2, huD0, pru, rfl, good_all (by decide +kernel), ne_of_none (preu _ _ hw2) huD⟩
    · have hw2 := rawS b2 hs1 hw1 (strs_no _)
      have hd2 := rawS b2 hs1 ntD.2 (refs_no _)
      exact rest tD _ _ rulesA ⟨(But.of h1).trans b2, s2, hw2, hd2, htD0, paired_map (fun x y _ hx => But.tupS b2 hs1 hx) prt, rfl, good_all (by decide +kernel), ne_of_none (pret _ _ (show upd H wa (.lst (acts.map V.str)) wa = some (.lst (acts.map V.str)) from upd_same)) htD⟩
theorem c_law_rules (T : Txt K mg) : C8.Cal P w K mg base 3 "_law_rules" (sp_law_rules K) [] := by
  obtain ⟨fd, F⟩ := T.f_law_rules
  exact ⟨_, fd, _, _, ok_law_rules T F, T.g_law_rules, F.kp, F.bindsN (fun _ _ _ _ _ _ us hl => match us, hl with | [_], _ => rfl), .nil⟩
end
end K32

namespace K32
open PySem PySem.Spec PyProof.Rows L2 My StX
section
variable {P : Program} {w : World} {K : PySem.W.Frag} {mg : Str → Option Value} {base : Heap}
def sp_law_deed (K : PySem.W.Frag) : Sp := fun vs H Q _ => ∃ (a : Addr) (m br : Nat), vs = [.ref a, .int (br : Int)] ∧ SpringAt H a m ∧ m ≤ 1900 ∧ br ≤ 1000 ∧
  ∀ H' p dd, But [a] H H' → SpringAt H' a (m + 5) → DeedAt K H' (.ref p) dd → (∀ p' t s, dd = Deed.code p' t s → 1 ≤ p' ∧ p' ≤ (br : Int)) → Q (.ref p) H'
set_option maxHeartbeats 2000000 in
theorem ok_law_deed (T : Txt K mg) {fd : FuncData} (F : FunD K d_law_deed.name d_law_deed.qual d_law_deed.params d_law_deed.body d_law_deed.scope (d_law_deed.dvs K) (d_law_deed.kws K) (He.fAd K d_law_deed.at_) fd) : FnOk P w K mg base C8.CX0 2 (He.fAd K d_law_deed.at_) fd ["spring", "brought"] (sp_law_deed K) := by
  have c_law_drop := c_law_drop (P := P) (w := w) (base := base) T
  refine F.ok sc_law_deed (fun vs H Q E h => ?_) (fun cdv A outer s H vs Q E hr h => ?_)
  · obtain ⟨a, m, br, rfl, _⟩ := h
    rfl
  · have hu := L2.hu_of hr
    obtain ⟨a, m, br, rfl, hs, hm, hbr, q⟩ := h
    refine ⟨_, (PSs.nox ((pss_cons (ps_set (i := 2) sc_law_deed.nd rfl (by first | exact Or.inl rfl | exact Or.inr rfl) (C8.pe_c c_law_drop hr (by decide) rfl (pa_cons (pv 0) (pa_cons pe_int pa_nil))))
  (pss_cons (ps_if (PW.pt (pw_or (pt_cmpR op_lt (pv 2) pe_int (nomark _)) (pw_or1 (PW.pt (pw_and (pt_cmpR op_lt (pv 2) pe_int (nomark _)) (pw_and1 (pt_cmpR op_eq (pv 1) pe_int (nomark _))))))))
  (pss_one (ps_ret (pe_tup (pa_cons pe_str (pa_cons (pe_cmpR op_gt (C8.pe_c c_law_drop hr (by decide) rfl (pa_cons (pv 0) (pa_cons pe_int pa_nil))) pe_int (nomark _)) (pa_cons (pe_cmpR op_gt (C8.pe_c c_law_drop hr (by decide) rfl (pa_cons (pv 0) (pa_cons pe_int pa_nil))) pe_int (nomark _)) pa_nil))))))
  pss_nil)
  (pss_cons (ps_if (pt_cmpR op_lt (pv 2) pe_int (nomark _))
  (pss_cons (ps_set (i := 3) sc_law_deed.nd rfl (by first | exact Or.inl rfl | exact Or.inr rfl) (C8.pe_c c_law_drop hr (by decide) rfl (pa_cons (pv 0) (pa_cons (pe_ix (My.ix_listK (K := K) rfl) (pe_lst (pa_cons pe_int (pa_cons pe_int (pa_cons pe_int pa_nil)))) (C8.pe_c c_law_drop hr (by decide) rfl (pa_cons (pv 0) (pa_cons pe_int pa_nil))) (fun _ _ => rfl)) pa_nil))))
  (pss_one (ps_ret (pe_tup (pa_cons pe_str (pa_cons (pe_op op_sub (pv 1) (pe_callB (call_min2 rfl) (by rfl) T.min (by decide +kernel) (pa_cons (pe_op op_sub (pv 1) pe_int) (pa_cons (pv 3) pa_nil)))) (pa_cons (pe_cmpR op_gt (C8.pe_c c_law_drop hr (by decide) rfl (pa_cons (pv 0) (pa_cons pe_int pa_nil))) pe_int (nomark _)) (pa_cons (pe_cmpR op_gt (C8.pe_c c_law_drop hr (by decide) rfl (pa_cons (pv 0) (pa_cons pe_int pa_nil))) pe_int (nomark _)) pa_nil))))))))
  pss_nil)
  (pss_one (ps_ret (pe_ix (My.ix_listK (K := K) rfl) (pe_lst (pa_cons (pe_tup (pa_cons pe_str pa_nil)) (pa_cons (pe_tup (pa_cons pe_str pa_nil)) (pa_cons (pe_tup (pa_cons pe_str pa_nil)) (pa_cons (pe_tup (pa_cons pe_str pa_nil)) pa_nil))))) (pe_op op_sub (pv 2) pe_int) (fun _ _ => rfl))))))))), ?_⟩
    have lt100 : ∀ m : Nat, m ≤ 2000 → m < 2 ^ 100 := fun m h => Nat.lt_of_le_of_lt h (by decide)
    refine ⟨_, rfl, a, m, 10, rfl, hs, lt100 _ (by omega), by decide, by decide, fun H1 way b1 s1 w0 w1 => ?_⟩
    have brg : ∀ D : Ends, D.rt = Q → (tRet (tTup (tCons (tC (V.str "bring")) (tCons (tOp (rI0 fun i j => V.bl (decide (j < i))) (tCall (sp_law_drop K) [] C8.E0 (tCons (tVar 0) (tCons (tC (V.int 4)) tNil))) (tC (V.int 0)))
        (tCons (tOp (rI0 fun i j => V.bl (decide (j < i))) (tCall (sp_law_drop K) [] C8.E0 (tCons (tVar 0) (tCons (tC (V.int 3)) tNil))) (tC (V.int 0))) tNil))))) D [some (.ref a), some (.int (br : Int)), some (.int way), none] H1 := by
      intro D hD
      refine ⟨_, rfl, a, m + 1, 4, rfl, s1, lt100 _ (by omega), by decide, by decide, fun H2 k2 b2 s2 _ _ => ⟨_, _, rfl, rfl, ?_⟩⟩
      refine ⟨_, rfl, a, m + 1 + 1, 3, rfl, s2, lt100 _ (by omega), by decide, by decide, fun H3 k3 b3 s3 _ _ => ⟨_, _, rfl, rfl, by show 3 ≤ sizeLine; decide, fun p hp => ?_⟩⟩
      show D.rt _ _
      rw [hD]
      have bb := (b1.trans (b2.trans b3)).trans (But.of (same_new (o := .tup [.str "bring", .bl (decide (0 < k2)), .bl (decide (0 < k3))]) hp))
      exact q _ p (.bring (decide (0 < k2)) (decide (0 < k3))) bb ((s3.same (same_new hp)).mono (by omega)) ⟨p, rfl, SqT.of upd_same⟩ (fun p' t s e => by cases e)
    refine ⟨_, rfl, _, _, rfl, rfl, _, rfl, ?_⟩
    refine L2.ite2 (fun c => ?_) (fun c => ?_)
    · exact brg _ rfl
    refine ⟨_, rfl, _, _, rfl, rfl, _, rfl, ?_⟩
    have g3 : 3 ≤ way := by
      have : ¬ way < 3 := fun z => c (decide_eq_true z)
      omega
    have after : (decide (way < 6) = true → 1 ≤ br) → (tSeq (tIfS (tTest (tOp (rI0 fun i j => V.bl (decide (i < j))) (tVar 2) (tC (V.int 6))))
        (tSeq (tAsg (tCall (sp_law_drop K) [] C8.E0 (tCons (tVar 0) (tCons (tOp (rIxL K) (tLst (tCons (tC (V.int 1)) (tCons (tC (V.int 3)) (tCons (tC (V.int 200)) tNil)))) (tCall (sp_law_drop K) [] C8.E0 (tCons (tVar 0) (tCons (tC (V.int 3)) tNil)))) tNil))) (gName 3))
          (tRet (tTup (tCons (tC (V.str "code")) (tCons (tOp (rI0 fun i j => V.int (i - j)) (tVar 1) (tCB (fun xs H Q => ∃ i j, xs = [V.int i, V.int j] ∧ Q (V.int (if j < i then j else i)) H) (tCons (tOp (rI0 fun i j => V.int (i - j)) (tVar 1) (tC (V.int 1))) (tCons (tVar 3) tNil))))
            (tCons (tOp (rI0 fun i j => V.bl (decide (j < i))) (tCall (sp_law_drop K) [] C8.E0 (tCons (tVar 0) (tCons (tC (V.int 4)) tNil))) (tC (V.int 0)))
              (tCons (tOp (rI0 fun i j => V.bl (decide (j < i))) (tCall (sp_law_drop K) [] C8.E0 (tCons (tVar 0) (tCons (tC (V.int 3)) tNil))) (tC (V.int 0))) tNil))))))) tNext)
        (tRet (tOp (rIxL K) (tLst (tCons (tTup (tCons (tC (V.str "day")) tNil)) (tCons (tTup (tCons (tC (V.str "pass")) tNil)) (tCons (tTup (tCons (tC (V.str "power")) tNil)) (tCons (tTup (tCons (tC (V.str "day")) tNil)) tNil)))))
          (tOp (rI0 fun i j => V.int (i - j)) (tVar 2) (tC (V.int 6)))))) { nx := fun _ H' => Q .non H', rt := Q } [some (.ref a), some (.int (br : Int)), some (.int way), none] H1 := by
      intro hb1
      refine ⟨_, rfl, _, _, rfl, rfl, _, rfl, ?_⟩
      refine L2.ite2 (fun c6 => ?_) (fun c6 => ?_)
      · have hbr1 := hb1 c6
        refine ⟨_, rfl, by show 3 ≤ sizeLine; decide, fun l hl => ?_⟩
        obtain ⟨_, _, _, hsp1, _⟩ := id s1
        have nal : a ≠ l := ne_of_none hsp1 hl
        have sl : Same H1 (upd H1 l (.lst [.int 1, .int 3, .int 200])) := same_new hl
        refine ⟨_, rfl, a, m + 1, 3, rfl, s1.same sl, lt100 _ (by omega), by decide, by decide, fun H2 k2 b2 s2 k20 k21 => ?_⟩
        have hl2 : H2 l = some (.lst [.int 1, .int 3, .int 200]) := b2 _ _ (by simpa using nal.symm) upd_same
        have bl2 : But [a] H H2 := (b1.trans (But.of sl)).trans b2
        obtain ⟨v, hv, hv0, hv1⟩ : ∃ v : Int, atI [V.int 1, V.int 3, V.int 200] k2 = some (.int v) ∧ 0 < v ∧ v < 1000 := by
          obtain e | e | e : k2 = ((0 : Nat) : Int) ∨ k2 = ((1 : Nat) : Int) ∨ k2 = ((2 : Nat) : Int) := by omega
          · exact ⟨1, by rw [e]; exact atI_nat rfl, by decide, by decide⟩
          · exact ⟨3, by rw [e]; exact atI_nat rfl, by decide, by decide⟩
          · exact ⟨200, by rw [e]; exact atI_nat rfl, by decide, by decide⟩
        refine ⟨l, _, k2, _, rfl, rfl, SqL.of hl2, hv, a, m + 1 + 1, v, rfl, s2, lt100 _ (by omega), hv0, Int.lt_trans hv1 (by decide), fun H3 k3 b3 s3 k30 k31 => ?_⟩
        refine ⟨_, rfl, _, rfl, _, _, rfl, rfl, _, rfl, _, _, rfl, _, _, rfl, rfl, ?_⟩
        refine ⟨_, rfl, a, m + 1 + 1 + 1, 4, rfl, s3, lt100 _ (by omega), by decide, by decide, fun H4 k4 b4 s4 _ _ => ⟨_, _, rfl, rfl, ?_⟩⟩
        refine ⟨_, rfl, a, m + 1 + 1 + 1 + 1, 3, rfl, s4, lt100 _ (by omega), by decide, by decide, fun H5 k5 b5 s5 _ _ => ⟨_, _, rfl, rfl, by show 4 ≤ sizeLine; decide, fun p hp => ?_⟩⟩
        refine q _ p (.code ((br : Int) - (if k3 < (br : Int) - 1 then k3 else (br : Int) - 1)) (decide (0 < k4)) (decide (0 < k5))) ((bl2.trans (b3.trans (b4.trans b5))).trans (But.of (same_new hp))) ((s5.same (same_new hp)).mono (by omega)) ⟨p, rfl, SqT.of upd_same⟩ (fun p' t s e => ?_)
        cases e
        split <;> omega
      · have g6 : 6 ≤ way := by
          have : ¬ way < 6 := fun z => c6 (decide_eq_true z)
          omega
        refine ⟨by show 1 ≤ sizeLine; decide, fun t0 h0 => ⟨by show 1 ≤ sizeLine; decide, fun t1 h1 => ⟨by show 1 ≤ sizeLine; decide, fun t2 h2 => ⟨by show 1 ≤ sizeLine; decide, fun t3 h3 => ⟨by show 4 ≤ sizeLine; decide, fun l hl => ?_⟩⟩⟩⟩⟩
        have n0 := new_rule (K := K) (r := ["day"]) h0
        have n1 := new_rule (K := K) (r := ["pass"]) h1
        have n2 := new_rule (K := K) (r := ["power"]) h2
        have n3 := new_rule (K := K) (r := ["day"]) h3
        have n4 := new_refs (as := [t0, t1, t2, t3]) hl
        have z3 := n4.1
        have z2 := n3.1.trans z3
        have z1 := n2.1.trans z2
        have z0 := n1.1.trans z1
        have zz := n0.1.trans z0
        have bz := b1.trans (But.of zz)
        have sz := (s1.same zz).mono (show m + 1 ≤ m + 5 by omega)
        refine ⟨_, rfl, _, _, rfl, rfl, ?_⟩
        obtain e | e | e | e : way - 6 = ((0 : Nat) : Int) ∨ way - 6 = ((1 : Nat) : Int) ∨ way - 6 = ((2 : Nat) : Int) ∨ way - 6 = ((3 : Nat) : Int) := by omega
        · exact ⟨l, [.ref t0, .ref t1, .ref t2, .ref t3], way - 6, .ref t0, rfl, rfl, SqL.of n4.2, by rw [e]; exact atI_nat rfl, q _ t0 .day bz sz ⟨t0, rfl, same_tup z0 n0.2⟩ (fun p' t s e => by cases e)⟩
        · exact ⟨l, [.ref t0, .ref t1, .ref t2, .ref t3], way - 6, .ref t1, rfl, rfl, SqL.of n4.2, by rw [e]; exact atI_nat rfl, q _ t1 .pass bz sz ⟨t1, rfl, same_tup z1 n1.2⟩ (fun p' t s e => by cases e)⟩
        · exact ⟨l, [.ref t0, .ref t1, .ref t2, .ref t3], way - 6, .ref t2, rfl, rfl, SqL.of n4.2, by rw [e]; exact atI_nat rfl, q _ t2 .power bz sz ⟨t2, rfl, same_tup z2 n2.2⟩ (fun p' t s e => by cases e)⟩
        · exact ⟨l, [.ref t0, .ref t1, .ref t2, .ref t3], way - 6, .ref t3, rfl, rfl, SqL.of n4.2, by rw [e]; exact atI_nat rfl, q _ t3 .day bz sz ⟨t3, rfl, same_tup z3 n3.2⟩ (fun p' t s e => by cases e)⟩
    refine L2.ite2 (fun c6 => ?_) (fun c6 => ?_)
    · refine ⟨_, rfl, rfl, _, rfl, L2.ite2 (fun c0 => ?_) (fun c0 => ?_)⟩
      · exact brg _ rfl
      · refine after fun _ => ?_
        have : ¬ (V.int (br : Int) = V.int 0) := fun z => c0 (decide_eq_true z)
        cases br with
        | zero => exact absurd rfl this
        | succ n => omega
    · exact after fun z => absurd z c6
theorem c_law_deed (T : Txt K mg) : C8.Cal P w K mg base 2 "_law_deed" (sp_law_deed K) [] := by
  obtain ⟨fd, F⟩ := T.f_law_deed
  exact ⟨_, fd, _, _, ok_law_deed T F, T.g_law_deed, F.kp, F.bindsN (fun _ _ _ _ _ _ us hl => match us, hl with | [_, _], _ => rfl), .nil⟩
end
end K32

namespace K32
open PySem PySem.Spec PyProof.Rows L2 My StX
section
variable {P : Program} {w : World} {K : PySem.W.Frag} {mg : Str → Option Value} {base : Heap}
def Sprs (H : Hp) (as : List Addr) (n : Nat) : Prop := ∀ x ∈ as, SpringAt H x n
theorem Sprs.mono {H : Hp} {as : List Addr} {n m : Nat} (h : Sprs H as n) (e : n ≤ m) : Sprs H as m := fun x hx => (h x hx).mono e
theorem Sprs.same {H H' : Hp} {as : List Addr} {n : Nat} (s : Same H H') (h : Sprs H as n) : Sprs H' as n := fun x hx => (h x hx).same s
theorem Sprs.draw {H H' : Hp} {as : List Addr} {n m : Nat} {a : Addr} (h : Sprs H as n) (b : But [a] H H') (s : SpringAt H' a m) (e : n ≤ m) : Sprs H' as m := fun x hx => by
  by_cases hxa : x = a
  · rw [hxa]; exact s
  · obtain ⟨w0, w1, w2, h1, h2, h3, h4⟩ := h x hx
    exact ⟨w0, w1, w2, b _ _ (by simpa using hxa) h1, h2, h3, by omega⟩
theorem Sprs.put {H : Hp} {as : List Addr} {n : Nat} {b : Addr} {o o2 : HO} (h : Sprs H as n) (hb : H b = some o) (no : ∀ i r, o ≠ .lst (.int i :: r)) : Sprs (upd H b o2) as n := fun x hx => (h x hx).put ((h x hx).ne hb no)
/-- all that stood but springs -/
theorem But.up {a : Addr} {as : List Addr} {H H' : Hp} (b : But [a] H H') (h : a ∈ as) : But as H H' := b.mono fun x hx => by rw [List.mem_singleton.mp hx]; exact h
theorem atI_m1 {xs : List V} {n : Nat} {v : V} (h : xs.length = n + 1) (e : xs[n]? = some v) : atI xs (-1) = some v := by
  unfold atI ixN
  rw [if_neg (by decide), if_pos (by omega)]
  show xs[((-1 : Int) + xs.length).toNat]? = _
  rw [show ((-1 : Int) + xs.length).toNat = n by omega]
  exact e
theorem deed_tup {K : PySem.W.Frag} {H H' : Hp} {v : V} {d : Deed} (f : ∀ a xs, SqT K H a xs → SqT K H' a xs) (h : DeedAt K H v d) : DeedAt K H' v d := by
  obtain ⟨a, e, t⟩ := h
  exact ⟨a, e, f _ _ t⟩
theorem DeedsAt.map {K : PySem.W.Frag} {H H' : Hp} {xs : List V} {ds : List Deed} (f : ∀ a xs, SqT K H a xs → SqT K H' a xs) (h : DeedsAt K H xs ds) : DeedsAt K H' xs ds := paired_map (fun x y _ hx => deed_tup f hx) h
theorem Playable.snoc {ds : List Deed} {dd : Deed} (h : Playable ds) (hd : ∀ p t s, dd = Deed.code p t s → 1 ≤ p ∧ p ≤ (brs ds : Int)) (hl : ds.length < 100000000) : Playable (ds ++ [dd]) := by
  refine ⟨by rw [List.length_append]; exact hl, fun i p t s e => ?_⟩
  by_cases hi : i < ds.length
  · rw [List.getElem?_append_left hi] at e
    rw [List.take_append_of_le_length (Nat.le_of_lt hi)]
    exact h.2 i p t s e
  · have hi2 : i = ds.length := by
      have := (List.getElem?_eq_some_iff.mp e).1
      rw [List.length_append] at this
      have : i < ds.length + 1 := this
      omega
    subst hi2
    rw [List.getElem?_append_right (Nat.le_refl _), Nat.sub_self] at e
    have e2 : dd = Deed.code p t s := Option.some.inj e
    rw [List.take_left]
    exact hd p t s e2
theorem brs_snoc (ds : List Deed) (d : Deed) : brs (ds ++ [d]) = brs ds + (if isBr d then 1 else 0) := by
  unfold brs
  rw [List.countP_append, List.countP_singleton]
theorem is_bring (d : Deed) : decide (V.str d.w = V.str "bring") = isBr d := by
  cases d <;> first | rfl | decide +kernel
structure DeedsSt (K : PySem.W.Frag) (p A : Addr) (as : List Addr) (H0 H : Hp) (n : Nat) (us : List Addr) (ds : List Deed) : Prop where
  b : But as H0 H
  hp : H p = some (.lst (as.map V.ref))
  sp : Sprs H as n
  hA : H A = some (.lst (us.map V.ref))
  dd : DeedsAt K H (us.map V.ref) ds
  A0 : H0 A = none
  pA : p ≠ A
  pl : Playable ds
theorem DeedsSt.draw {K : PySem.W.Frag} {p A a : Addr} {as : List Addr} {H0 H H' : Hp} {n m : Nat} {us : List Addr} {ds : List Deed} (h : DeedsSt K p A as H0 H n us ds) (ha : a ∈ as) (b : But [a] H H') (s : SpringAt H' a m) (e : n ≤ m) : DeedsSt K p A as H0 H' m us ds :=
  ⟨h.b.trans (But.up b ha), rawS b (h.sp _ ha) h.hp (refs_no _), h.sp.draw b s e, rawS b (h.sp _ ha) h.hA (refs_no _), h.dd.map fun _ _ t => But.tupS b (h.sp _ ha) t, h.A0, h.pA, h.pl⟩
theorem DeedsSt.add {K : PySem.W.Frag} {p A t : Addr} {as : List Addr} {H0 H : Hp} {n : Nat} {us : List Addr} {ds : List Deed} {d : Deed} (h : DeedsSt K p A as H0 H n us ds) (ht : DeedAt K H (.ref t) d) (hd : ∀ p t s, d = Deed.code p t s → 1 ≤ p ∧ p ≤ (brs ds : Int)) (hl : ds.length < 100000000) :
    DeedsSt K p A as H0 (upd H A (.lst (us.map V.ref ++ [.ref t]))) n (us ++ [t]) (ds ++ [d]) := by
  have e : (us ++ [t]).map V.ref = us.map V.ref ++ [.ref t] := by rw [List.map_append]; rfl
  refine ⟨h.b.put (.inl h.A0), by rw [upd_ne h.pA]; exact h.hp, h.sp.put h.hA (refs_no _), by rw [e]; exact upd_same, ?_, h.A0, h.pA, h.pl.snoc hd hl⟩
  rw [e]
  exact Paired.snoc (h.dd.map fun _ _ t => tupU h.hA t) (deed_tup (fun _ _ t => tupU h.hA t) ht)
theorem DeedsSt.mono {K : PySem.W.Frag} {p A : Addr} {as : List Addr} {H0 H : Hp} {n m : Nat} {us : List Addr} {ds : List Deed} (h : DeedsSt K p A as H0 H n us ds) (e : n ≤ m) : DeedsSt K p A as H0 H m us ds := ⟨h.b, h.hp, h.sp.mono e, h.hA, h.dd, h.A0, h.pA, h.pl⟩
def sp_law_deeds (K : PySem.W.Frag) : Sp := fun vs H Q _ => ∃ (p : Addr) (as : List Addr) (n : Nat), vs = [.ref p] ∧ H p = some (.lst (as.map V.ref)) ∧ Sprs H as n ∧ n ≤ 600 ∧ as.length ≤ 63 ∧
  ∀ (H' : Hp) (u : Addr) (us : List Addr) (ds : List Deed), But as H H' → Sprs H' as (n + 1200) → H' u = some (.lst (us.map V.ref)) → H u = none → DeedsAt K H' (us.map V.ref) ds → Playable ds → ds.length ≤ 2 * as.length → Q (.ref u) H'
set_option maxHeartbeats 2000000 in
theorem ok_law_deeds (T : Txt K mg) {fd : FuncData} (F : FunD K d_law_deeds.name d_law_deeds.qual d_law_deeds.params d_law_deeds.body d_law_deeds.scope (d_law_deeds.dvs K) (d_law_deeds.kws K) (He.fAd K d_law_deeds.at_) fd) : FnOk P w K mg base C8.CX0 3 (He.fAd K d_law_deeds.at_) fd ["springs"] (sp_law_deeds K) := by
  have c_law_drop := c_law_drop (P := P) (w := w) (base := base) T
  have c_law_deed := c_law_deed (P := P) (w := w) (base := base) T
  refine F.ok sc_law_deeds (fun vs H Q E h => ?_) (fun cdv A outer s H vs Q E hr h => ?_)
  · obtain ⟨p, as, n, rfl, _⟩ := h
    rfl
  · have hu := L2.hu_of hr
    obtain ⟨p, as, n, rfl, hp, hsp, hn, hal, q⟩ := h
    refine ⟨_, (PSs.nox ((pss_cons (ps_par (i := 1) (j := 2) (by rfl) sc_law_deeds.nd rfl rfl (by decide) rfl rfl (pa_cons (pe_lst pa_nil) (pa_cons pe_int pa_nil)) (by rfl))
  (pss_cons (ps_for PassesOwn.never rfl (My.pi_listK (K := K) rfl (pv 0)) (pg_name (i := 3) sc_law_deeds.nd rfl (by first | exact Or.inl rfl | exact Or.inr rfl))
  (pss_one (ps_for PassesOwn.never rfl (pi_range1 (by rfl) T.range (pa_cons (pe_op op_add pe_int (C8.pe_c c_law_drop hr (by decide) rfl (pa_cons (pv 3) (pa_cons pe_int pa_nil)))) pa_nil)) (pg_name (i := 4) sc_law_deeds.nd rfl (by first | exact Or.inl rfl | exact Or.inr rfl))
  (pss_cons (ps_expr (My.pe_bmK (K := K) rfl PySem.F.plainAttrs_list PySem.F.slot_list_append PySem.F.type_list_append mt_append (pv 1) (pa_cons (C8.pe_c c_law_deed hr (by decide) rfl (pa_cons (pv 3) (pa_cons (pv 2) pa_nil))) pa_nil)))
  (pss_one (ps_set (i := 2) sc_law_deeds.nd rfl (by first | exact Or.inl rfl | exact Or.inr rfl) (pe_op op_add (pv 2) (pe_callTy call_int1 (by rfl) T.int (by decide +kernel) (pa_cons (pe_cmpR op_eq (pe_ix (My.ix_tupK (K := K) rfl) (pe_ix (My.ix_listK (K := K) rfl) (pv 1) (pe_un un_neg pe_int) (fun _ _ => rfl)) pe_int (fun _ _ => rfl)) pe_str (nomark _)) pa_nil)))))))))
  (pss_one (ps_ret (pv 1))))))), ?_⟩
    refine ⟨Nat.zero_le _, fun A hA => ⟨_, _, rfl, ?_⟩⟩
    have s0 := same_new (o := .lst []) hA
    have st0 : DeedsSt K p A as H (upd H A (.lst [])) n [] [] := ⟨But.of s0, s0 _ _ hp, hsp.same s0, upd_same, .nil, hA, ne_of_none hp hA, ⟨Nat.zero_le _, fun i p t s e => (by cases e)⟩⟩
    refine ⟨_, rfl, p, rfl, ⟨_, SqL.of st0.hp⟩, ?_⟩
    refine for_list (K := K) (a := p) (xs := as.map V.ref) (fun i σ H' => ∃ (o3 o4 : Option V) (us : List Addr) (ds : List Deed), σ = [some (.ref p), some (.ref A), some (.int (brs ds : Nat)), o3, o4] ∧ DeedsSt K p A as H H' (n + 11 * i) us ds ∧ ds.length ≤ 2 * i) ⟨_, _, [], [], rfl, st0, Nat.le_refl _⟩ (fun i σ H' _ z => ?_) ?_ ?_
    · obtain ⟨_, _, _, _, _, z, _⟩ := z
      exact SqL.of z.hp
    · rintro i y σ H1 hi ⟨o3, o4, us, ds, rfl, st1, hl1⟩
      obtain ⟨ai, hai, rfl⟩ := map_get hi
      have hmi : ai ∈ as := List.mem_of_getElem? hai
      have hi63 : i < 63 := Nat.lt_of_lt_of_le (List.getElem?_eq_some_iff.mp hai).1 hal
      have lt100 : ∀ m : Nat, m ≤ 2000 → m < 2 ^ 100 := fun m h => Nat.lt_of_le_of_lt h (by decide)
      refine ⟨_, rfl, ai, n + 11 * i, 2, rfl, st1.sp _ hmi, lt100 _ (by omega), by decide, by decide, fun H2 k b2 s2 k0 k1 => ?_⟩
      have st2 := st1.draw hmi b2 s2 (by omega)
      refine ⟨_, _, rfl, rfl, 1 + k, rfl, by omega, by omega, ?_⟩
      refine for_range (lo := 0) (n := (1 + k).toNat) (fun j σ H' => ∃ (o4 : Option V) (us2 : List Addr) (ds2 : List Deed), σ = [some (.ref p), some (.ref A), some (.int (brs ds2 : Nat)), some (.ref ai), o4] ∧ DeedsSt K p A as H H' (n + 11 * i + 1 + 5 * j) us2 ds2 ∧ ds2.length = ds.length + j) ⟨_, us, ds, rfl, st2, rfl⟩ ?_ ?_
      · rintro j σ H3 hj ⟨o4, us2, ds2, rfl, st3, hl3⟩
        have hj2 : j < 2 := by omega
        have hb3 := brs_le ds2
        have hul : us2.length = ds2.length := by
          have := st3.dd.length
          rw [List.length_map] at this
          exact this
        refine ⟨_, rfl, .inl ⟨rfl, _, SqL.of st3.hA⟩, _, rfl, _, rfl, ai, n + 11 * i + 1 + 5 * j, brs ds2, rfl, st3.sp _ hmi, by omega, by omega, fun H4 t dd b4 s4 ht hd => ?_⟩
        have st4 := st3.draw hmi b4 s4 (by omega)
        refine ⟨A, _, _, rfl, rfl, st4.hA, by rw [List.length_map]; exact Nat.lt_of_le_of_lt (show us2.length ≤ 1000 by omega) (by decide), ?_⟩
        have st5 := st4.add ht hd (by omega)
        obtain ⟨tt, ett, htt⟩ := deed_tup (fun _ _ t => tupU st4.hA t) ht
        cases ett
        have w0 : atI dd.vs 0 = some (.str dd.w) := by cases dd <;> rfl
        refine ⟨_, rfl, _, rfl, 1, rfl, A, _, -1, _, rfl, rfl, SqL.of st5.hA, atI_m1 (n := us2.length) (by rw [List.length_map, List.length_append]; rfl) (by rw [List.map_append, List.getElem?_append_right (by rw [List.length_map]; exact Nat.le_refl _), List.length_map, Nat.sub_self]; rfl), t, _, 0, _, rfl, rfl, htt, w0, rfl, .inr ⟨_, rfl, _, _, rfl, rfl, ?_⟩⟩
        rw [is_bring]
        refine ⟨some (.int (0 + (j : Int))), us2 ++ [t], ds2 ++ [dd], ?_, st5.mono (by omega), by rw [List.length_append, hl3]; rfl⟩
        rw [brs_snoc]
        cases isBr dd <;> rfl
      · rintro σ H3 ⟨o4, us2, ds2, rfl, st3, hl3⟩
        exact ⟨_, _, us2, ds2, rfl, st3.mono (by omega), by omega⟩
    · rintro σ H1 ⟨o3, o4, us, ds, rfl, st1, hl1⟩
      rw [List.length_map] at st1 hl1
      exact ⟨_, rfl, q _ A us ds st1.b (st1.sp.mono (by omega)) st1.hA st1.A0 st1.dd st1.pl hl1⟩
theorem c_law_deeds (T : Txt K mg) : C8.Cal P w K mg base 3 "_law_deeds" (sp_law_deeds K) [] := by
  obtain ⟨fd, F⟩ := T.f_law_deeds
  exact ⟨_, fd, _, _, ok_law_deeds T F, T.g_law_deeds, F.kp, F.bindsN (fun _ _ _ _ _ _ us hl => match us, hl with | [_], _ => rfl), .nil⟩
end
end K32

namespace K32
open PySem PySem.Spec PyProof.Rows L2 My StX
theorem trefs_no (zs : List (Addr × Addr × Addr)) (i : Int) (r : List V) : HO.lst (zs.map fun z => V.ref z.1) ≠ .lst (.int i :: r) := by
  intro z
  cases zs with
  | nil => cases z
  | cons x l => cases z
theorem ins_no (C dx : Addr) (fs : List (Str × V)) (i : Int) (r : List V) : HO.ins C dx fs ≠ .lst (.int i :: r) := fun z => by cases z
theorem BookAt.draw {K : PySem.W.Frag} {H H' : Hp} {a b : Addr} {n : Nat} {d : Int} {rs : List RuleL} (s : But [a] H H') (h : SpringAt H a n) (t : BookAt K H b d rs) : BookAt K H' b d rs := by
  obtain ⟨dx, u, as, h1, h2, h3, h4⟩ := t
  exact ⟨dx, u, as, rawS s h h1 (ins_no _ _ _), But.tupS s h h2, paired_map (fun x y _ hx => But.tupS s h hx) h3, h4⟩
/-- reports, none of whose lists is a spring -/
def DueN (as : List Addr) (H : Hp) (u : Addr) (Us : List ToldS) : Prop := ∃ rs : List (Addr × Addr × Addr), H u = some (.lst (rs.map fun z => V.ref z.1)) ∧ Paired (ItAt H) rs Us ∧ ∀ x ∈ lets rs, x ∉ as
theorem DueN.due {as : List Addr} {H : Hp} {u : Addr} {Us : List ToldS} (h : DueN as H u Us) : DueAt H u Us := by
  obtain ⟨rs, h1, h2, _⟩ := h
  exact ⟨rs, h1, h2⟩
theorem RepAt.dueN {as : List Addr} {H0 H : Hp} {n : Nat} {p : Addr} {Us : List ToldS} (h : RepAt H0 H p Us) (s : Sprs H0 as n) : DueN as H p Us := by
  obtain ⟨rs, h1, h2, h3, h4, h5⟩ := h
  refine ⟨rs, h1, h2, fun x hx ha => ?_⟩
  obtain ⟨_, _, _, e, _⟩ := s x ha
  rw [(h4 x hx).1] at e
  cases e
theorem DueN.same {as : List Addr} {H H' : Hp} {u : Addr} {Us : List ToldS} (s : Same H H') (h : DueN as H u Us) : DueN as H' u Us := by
  obtain ⟨rs, h1, h2, h3⟩ := h
  exact ⟨rs, s _ _ h1, paired_map (fun z U _ hz => hz.same s) h2, h3⟩
theorem DueN.draw {as : List Addr} {H H' : Hp} {u a : Addr} {n : Nat} {Us : List ToldS} (s : But [a] H H') (hs : SpringAt H a n) (ha : a ∈ as) (h : DueN as H u Us) : DueN as H' u Us := by
  obtain ⟨rs, h1, h2, h3⟩ := h
  refine ⟨rs, rawS s hs h1 (trefs_no _), paired_map (fun z U hz hh => ?_) h2, h3⟩
  obtain ⟨a1, a2, a3⟩ := hh
  have hl := lets_mem hz
  have ne : ∀ x, x ∈ lets rs → x ∉ [a] := fun x hx e => h3 x hx (by rw [List.mem_singleton.mp e]; exact ha)
  exact ⟨rawS s hs a1 (tup_no _), s _ _ (ne _ hl.1) a2, s _ _ (ne _ hl.2) a3⟩
def FltDue (H : Hp) (u : Addr) (l : List (Str × Nat)) : Prop := ∃ us : List Addr, H u = some (.lst (us.map V.ref)) ∧ Paired (FItAt H) us l
def fltD (l : List (Str × Nat)) : PyData := .list (l.map fun x => .tuple [.str x.1, .int (x.2 : Nat)])
theorem sm_flt {l : List (Str × Nat)} (h : ∀ x ∈ l, PyData.canLay0 (.str x.1) = true) : Sm 2 (fltD l) := sm_list fun d hd => by
  obtain ⟨x, hx, rfl⟩ := List.mem_map.mp hd
  refine sm_tuple fun d hd => ?_
  simp only [List.mem_cons, List.not_mem_nil, or_false] at hd
  rcases hd with rfl | rfl
  · exact sok (h x hx)
  · exact sm_int _
theorem dp_flts {K : PySem.W.Frag} {H : Hp} : ∀ {us : List Addr} {l : List (Str × Nat)}, Paired (FItAt H) us l → DpAll K H (us.map V.ref) (l.map fun x => .tuple [.str x.1, .int (x.2 : Nat)])
  | _, _, .nil => .nil
  | _, _, .cons r t => .cons (.tup (SqT.of r) (.cons (.str _) (.cons (.int _) .nil))) (dp_flts t)
theorem FltDue.dp {K : PySem.W.Frag} {H : Hp} {u : Addr} {l : List (Str × Nat)} (h : FltDue H u l) : Dp K H (.ref u) (fltD l) := by
  obtain ⟨us, h1, h2⟩ := h
  exact .lst (SqL.of h1) (dp_flts h2)
theorem FltDue.same {H H' : Hp} {u : Addr} {l : List (Str × Nat)} (s : Same H H') (h : FltDue H u l) : FltDue H' u l := by
  obtain ⟨us, h1, h2⟩ := h
  exact ⟨us, s _ _ h1, paired_map (fun z U _ hz => s _ _ hz) h2⟩
theorem FltDue.draw {H H' : Hp} {u a : Addr} {n : Nat} {l : List (Str × Nat)} (s : But [a] H H') (hs : SpringAt H a n) (h : FltDue H u l) : FltDue H' u l := by
  obtain ⟨us, h1, h2⟩ := h
  exact ⟨us, rawS s hs h1 (refs_no _), paired_map (fun z U _ hz => rawS s hs hz (tup_no _)) h2⟩
theorem FltAt.due {H0 H : Hp} {p : Addr} {l : List (Str × Nat)} (h : FltAt H0 H p l) : FltDue H p l := by
  obtain ⟨us, h1, h2, _⟩ := h
  exact ⟨us, h1, h2⟩
/-! ### beginnings -/
theorem foldl_ext (rs : List RuleL) (d : Int) : ∀ (l : List Deed) (st : PlayS), ∃ more, (l.foldl (stepF rs d) st).2.2 = st.2.2 ++ more
  | [], st => ⟨[], by rw [List.append_nil]; rfl⟩
  | x :: l, st => by
    obtain ⟨more, e⟩ := foldl_ext rs d l (stepF rs d st x)
    refine ⟨[(doF rs d (if isBr x = true then st.1 + 1 else st.1) x st.2.1).2] ++ more, ?_⟩
    rw [List.foldl_cons, e, ← List.append_assoc]
    rfl
theorem run_take (rs : List RuleL) (d : Int) (ds : List Deed) (c : Nat) (hc : c ≤ ds.length) : (runF rs d (ds.take c)).2.2 = (runF rs d ds).2.2.take c := by
  have e : runF rs d ds = (ds.drop c).foldl (stepF rs d) (runF rs d (ds.take c)) := by
    unfold runF
    rw [← List.foldl_append, List.take_append_drop]
  obtain ⟨more, h⟩ := foldl_ext rs d (ds.drop c) (runF rs d (ds.take c))
  have hl : (runF rs d (ds.take c)).2.2.length = c := by rw [runF_len, List.length_take]; omega
  have h2 : ((runF rs d (ds.take c)).2.2 ++ more).take c = (runF rs d (ds.take c)).2.2 := by rw [List.take_append_of_le_length (Nat.le_of_eq hl.symm), List.take_of_length_le (Nat.le_of_eq hl)]
  rw [e, h, h2]
theorem fl_ge : ∀ (n : Nat) (Us : List ToldS) (x : Str × Nat), x ∈ fl n Us → n ≤ x.2
  | _, [], x, h => by cases h
  | n, U :: r, x, h => by
    rcases List.mem_append.mp (show x ∈ flW U n ++ fl (n + 1) r from h) with h | h
    · obtain ⟨y, _, rfl⟩ := List.mem_map.mp h
      exact Nat.le_refl _
    · exact Nat.le_of_succ_le (fl_ge (n + 1) r x h)
theorem fl_cut : ∀ (n c : Nat) (Us : List ToldS), (fl n Us).filter (fun x => decide (x.2 < n + c)) = fl n (Us.take c)
  | n, c, [] => by
    rw [List.take_nil]
    rfl
  | n, 0, U :: r => by
    show _ = []
    refine List.filter_eq_nil_iff.mpr fun x hx => ?_
    have := fl_ge n (U :: r) x hx
    simp only [decide_eq_true_eq]
    omega
  | n, c + 1, U :: r => by
    show (flW U n ++ fl (n + 1) r).filter _ = flW U n ++ fl (n + 1) (r.take c)
    rw [List.filter_append]
    have e1 : (flW U n).filter (fun x => decide (x.2 < n + (c + 1))) = flW U n := List.filter_eq_self.mpr fun x hx => by
      obtain ⟨y, _, rfl⟩ := List.mem_map.mp hx
      simp only [decide_eq_true_eq]
      omega
    rw [e1, ← fl_cut (n + 1) c r]
    congr 2
    funext x
    rw [show n + (c + 1) = n + 1 + c by omega]
theorem fl_cut0 (c : Nat) (Us : List ToldS) : (fl 0 Us).filter (fun x => decide (x.2 < c)) = fl 0 (Us.take c) := by
  have := fl_cut 0 c Us
  rw [Nat.zero_add] at this
  exact this
theorem Playable.take {ds : List Deed} (h : Playable ds) (c : Nat) : Playable (ds.take c) := by
  refine ⟨by have := h.1; rw [List.length_take]; omega, fun i p t s e => ?_⟩
  have hi : i < c := by
    have := (List.getElem?_eq_some_iff.mp e).1
    rw [List.length_take] at this
    omega
  rw [List.getElem?_take_of_lt hi] at e
  rw [List.take_take, Nat.min_eq_left (Nat.le_of_lt hi)]
  exact h.2 i p t s e
theorem cut_to {xs : List V} {c : Nat} : cutV xs none (some (c : Int)) = xs.take c := by
  unfold cutV
  rw [HT.sIx_nat, HT.sIx_none, List.drop_zero, Nat.sub_zero]
  by_cases h : c ≤ xs.length
  · rw [Nat.min_eq_left h]
  · rw [Nat.min_eq_right (by omega), List.take_of_length_le (Nat.le_refl _), List.take_of_length_le (by omega)]
theorem cut_from {xs : List V} {c : Nat} (h : c ≤ xs.length) : cutV xs (some (c : Int)) none = xs.drop c := by
  unfold cutV
  rw [HT.sIx_nat, HT.sIx_none, Nat.min_eq_left h]
  exact List.take_of_length_le (by rw [List.length_drop]; exact Nat.le_refl _)
/-- the words of faults -/
def OkW (ws : List Str) : Prop := ∀ y ∈ ws, PyData.canLay0 (.str y) = true
theorem OkW.nil : OkW [] := fun y h => by cases h
theorem OkW.add {ws : List Str} {z : Str} (h : OkW ws) (hz : PyData.canLay0 (.str z) = true) : OkW (ws ++ [z]) := fun y hy => by
  rcases List.mem_append.mp hy with hy | hy
  · exact h y hy
  · rw [List.mem_singleton.mp hy]; exact hz
theorem lay_ok {p : Int} {l : Bool} {x : BoxS × ToldS} (h : OkW x.2.wrongs) : OkW (layIn p l x).2.wrongs := by
  unfold layIn
  split
  · show OkW (if x.1.inside.isEmpty = true then x.2.wrongs else x.2.wrongs ++ [("two" : Str)])
    split
    · exact h
    · exact h.add (by decide +kernel)
  · exact h
theorem take_ok {o : Option Int} {x : BoxS × ToldS} (h : OkW x.2.wrongs) : OkW (letTake o x).2.wrongs := by
  show OkW (if x.1.inside.any (fun p => decide (some p ≠ o)) = true then x.2.wrongs ++ [("wrong" : Str)] else x.2.wrongs)
  split
  · exact h.add (by decide +kernel)
  · exact h
theorem addW_ok {c : Bool} {wd : Str} {x : BoxS × ToldS} (h : OkW x.2.wrongs) (hw : PyData.canLay0 (.str wd) = true) : OkW (addW c wd x).2.wrongs := by
  unfold addW
  split
  · exact h.add hw
  · exact h
theorem doF_words (rs : List RuleL) (d n : Int) (x : Deed) (S : BoxS) : OkW (doF rs d n x S).2.wrongs := by
  cases x with
  | bring l s =>
    show OkW (bringF rs n l s S).2.wrongs
    unfold bringF
    split
    · rw [go_w]
      refine lay_ok ?_
      rw [carry_w]
      exact OkW.nil
    · exact OkW.nil
  | code p t s =>
    show OkW (codeF rs p t s S).2.wrongs
    unfold codeF
    split
    · rw [go_w]
      refine addW_ok ?_ (by decide +kernel)
      unfold takeIf
      split
      · refine take_ok ?_
        rw [carry_w]
        exact OkW.nil
      · rw [carry_w]; exact OkW.nil
    · exact addW_ok OkW.nil (by decide +kernel)
  | pass =>
    show OkW (passBy S).2.wrongs
    unfold passBy
    split
    · exact take_ok OkW.nil
    · exact OkW.nil
  | day =>
    show OkW (dayF d rs S).2.wrongs
    unfold dayF
    split
    · exact OkW.nil
    · split
      · rw [carry_w]; exact OkW.nil
      · exact OkW.nil
  | power =>
    show OkW (powerF rs S).2.wrongs
    unfold powerF
    rw [carry_w]; exact OkW.nil
theorem run_words (rs : List RuleL) (d : Int) (ds : List Deed) : ∀ U ∈ (runF rs d ds).2.2, OkW U.wrongs := by
  have hh : ∀ (l : List Deed) (st : PlayS), (∀ U ∈ st.2.2, OkW U.wrongs) → ∀ U ∈ (l.foldl (stepF rs d) st).2.2, OkW U.wrongs := by
    intro l
    induction l with
    | nil => intro st h; exact h
    | cons z l ih =>
      intro st h
      rw [List.foldl_cons]
      refine ih _ fun U hU => ?_
      rcases List.mem_append.mp (show U ∈ st.2.2 ++ [_] from hU) with hU | hU
      · exact h U hU
      · rw [List.mem_singleton.mp hU]
        exact doF_words _ _ _ _ _
  exact hh ds _ fun U hU => by cases hU
theorem fl_words : ∀ (n : Nat) (Us : List ToldS), (∀ U ∈ Us, OkW U.wrongs) → ∀ x ∈ fl n Us, PyData.canLay0 (.str x.1) = true
  | _, [], _, x, hx => by cases hx
  | n, U :: r, h, x, hx => by
    rcases List.mem_append.mp (show x ∈ flW U n ++ fl (n + 1) r from hx) with hx | hx
    · obtain ⟨y, hy, rfl⟩ := List.mem_map.mp hx
      exact h U (List.mem_cons_self ..) y hy
    · exact fl_words (n + 1) r (fun V hV => h V (List.mem_cons_of_mem _ hV)) x hx
structure LawB (K : PySem.W.Frag) (p W u R Wr : Addr) (as us : List Addr) (d : Int) (rs : List RuleL) (ds : List Deed) (Us : List ToldS) (H : Hp) (m : Nat) : Prop where
  hp : H p = some (.lst (as.map V.ref))
  sp : Sprs H as m
  bk : BookAt K H W d rs
  hu : H u = some (.lst (us.map V.ref))
  dd : DeedsAt K H (us.map V.ref) ds
  dR : DueN as H R Us
  fW : FltDue H Wr (fl 0 Us)
section
variable {K : PySem.W.Frag} {p W u R Wr : Addr} {as us : List Addr} {d : Int} {rs : List RuleL} {ds : List Deed} {Us : List ToldS} {H H' : Hp} {m m2 : Nat}
theorem LawB.same (h : LawB K p W u R Wr as us d rs ds Us H m) (s : Same H H') : LawB K p W u R Wr as us d rs ds Us H' m :=
  ⟨s _ _ h.hp, h.sp.same s, h.bk.same s, s _ _ h.hu, DeedsAt.same s h.dd, h.dR.same s, h.fW.same s⟩
theorem LawB.draw {a : Addr} (h : LawB K p W u R Wr as us d rs ds Us H m) (ha : a ∈ as) (b : But [a] H H') (s : SpringAt H' a m2) (e : m ≤ m2) : LawB K p W u R Wr as us d rs ds Us H' m2 :=
  ⟨rawS b (h.sp _ ha) h.hp (refs_no _), h.sp.draw b s e, BookAt.draw b (h.sp _ ha) h.bk, rawS b (h.sp _ ha) h.hu (refs_no _), DeedsAt.map (fun _ _ t => But.tupS b (h.sp _ ha) t) h.dd, DueN.draw b (h.sp _ ha) ha h.dR, FltDue.draw b (h.sp _ ha) h.fW⟩
end
end K32

namespace K32
open PySem PySem.Spec PyProof.Rows L2 My StX
theorem not_spring {H : Hp} {as : List Addr} {n : Nat} {b : Addr} {o : HO} (h : Sprs H as n) (t : H b = some o) (no : ∀ i r, o ≠ .lst (.int i :: r)) : b ∉ as := fun hb => (h b hb).ne t no rfl
theorem rawA {H H' : Hp} {as : List Addr} {n : Nat} {b : Addr} {o : HO} (s : But as H H') (h : Sprs H as n) (t : H b = some o) (no : ∀ i r, o ≠ .lst (.int i :: r)) : H' b = some o := s _ _ (not_spring h t no) t
theorem tupA {K : PySem.W.Frag} {H H' : Hp} {as : List Addr} {n : Nat} {b : Addr} {xs : List V} (s : But as H H') (h : Sprs H as n) (t : SqT K H b xs) : SqT K H' b xs := by
  rcases t with (t | ⟨o, t⟩) | t
  · exact .inl (.inl (rawA s h t (tup_no _)))
  · exact .inl (.inr ⟨o, rawA s h t (fun _ _ z => by cases z)⟩)
  · exact .inr t
theorem BookAt.drawA {K : PySem.W.Frag} {H H' : Hp} {as : List Addr} {b : Addr} {n : Nat} {d : Int} {rs : List RuleL} (s : But as H H') (h : Sprs H as n) (t : BookAt K H b d rs) : BookAt K H' b d rs := by
  obtain ⟨dx, u, qs, h1, h2, h3, h4⟩ := t
  exact ⟨dx, u, qs, rawA s h h1 (ins_no _ _ _), tupA s h h2, paired_map (fun x y _ hx => tupA s h hx) h3, h4⟩
theorem due_take {H : Hp} {sl : Addr} {zs : List (Addr × Addr × Addr)} {Us : List ToldS} {c : Nat} (h : H sl = some (.lst ((zs.map fun z => V.ref z.1).take c))) (p : Paired (ItAt H) zs Us) : DueAt H sl (Us.take c) := ⟨zs.take c, by rw [h, List.map_take], paired_take c p⟩
section
variable {P : Program} {w : World} {K : PySem.W.Frag} {mg : Str → Option Value} {base : Heap}
def sp_law (K : PySem.W.Frag) : Sp := fun vs H Q _ => ∃ (a : Addr) (ns : List Int), vs = [.ref a] ∧ SqL K H a (ns.map V.int) ∧ ns.length ≤ 63 ∧ ∀ H', Q (.bl true) H'
set_option maxHeartbeats 2000000 in
theorem ok_law (T : Txt K mg) {fd : FuncData} (F : FunD K d_law.name d_law.qual d_law.params d_law.body d_law.scope (d_law.dvs K) (d_law.kws K) (He.fAd K d_law.at_) fd) : FnOk P w K mg base C8.CX0 9 (He.fAd K d_law.at_) fd ["script"] (sp_law K) := by
  have c_faults := c_faults (P := P) (w := w) (base := base) T
  have c_play := c_play (P := P) (w := w) (base := base) T
  have c_law_drop := c_law_drop (P := P) (w := w) (base := base) T
  have c_law_deeds := c_law_deeds (P := P) (w := w) (base := base) T
  have c_law_made := c_law_made (P := P) (w := w) (base := base) T
  have c_law_rules := c_law_rules (P := P) (w := w) (base := base) T
  have c_law_springs := c_law_springs (P := P) (w := w) (base := base) T
  refine F.ok sc_law (fun vs H Q E h => ?_) (fun cdv A outer s H vs Q E hr h => ?_)
  · obtain ⟨a, ns, rfl, _⟩ := h
    rfl
  · have hu := L2.hu_of hr
    obtain ⟨a, ns, rfl, hS, hl, q⟩ := h
    refine ⟨_, (PSs.nox ((pss_cons (ps_set (i := 1) sc_law.nd rfl (by first | exact Or.inl rfl | exact Or.inr rfl) (C8.pe_c c_law_springs hr (by decide) rfl (pa_cons (pv 0) pa_nil)))
  (pss_cons (ps_set (i := 2) sc_law.nd rfl (by first | exact Or.inl rfl | exact Or.inr rfl) (pe_ix (My.ix_listK (K := K) rfl) (pv 1) pe_int (fun _ _ => rfl)))
  (pss_cons (ps_par (i := 3) (j := 4) (by rfl) sc_law.nd rfl rfl (by decide) rfl rfl (pa_cons (pe_op op_add pe_int (C8.pe_c c_law_drop hr (by decide) rfl (pa_cons (pv 2) (pa_cons (pe_ix (My.ix_listK (K := K) rfl) (pe_lst (pa_cons pe_int (pa_cons pe_int pa_nil))) (C8.pe_c c_law_drop hr (by decide) rfl (pa_cons (pv 2) (pa_cons pe_int pa_nil))) (fun _ _ => rfl)) pa_nil)))) (pa_cons (C8.pe_c c_law_rules hr (by decide) rfl (pa_cons (pv 2) pa_nil)) pa_nil)) (by rfl))
  (pss_cons (ps_par (i := 5) (j := 6) (by rfl) sc_law.nd rfl rfl (by decide) rfl rfl (pa_cons (C8.pe_c c_law_made hr (by decide) rfl (pa_cons (pv 3) (pa_cons (pv 4) pa_nil))) (pa_cons (C8.pe_c c_law_deeds hr (by decide) rfl (pa_cons (pv 1) pa_nil)) pa_nil)) (by rfl))
  (pss_cons (ps_set (i := 7) sc_law.nd rfl (by first | exact Or.inl rfl | exact Or.inr rfl) (C8.pe_c c_law_drop hr (by decide) rfl (pa_cons (pe_ix (My.ix_listK (K := K) rfl) (pv 1) (pe_un un_neg pe_int) (fun _ _ => rfl)) (pa_cons (pe_op op_add (pe_callB (My.len_seqK (K := K) rfl) (by rfl) T.len (by decide +kernel) (pa_cons (pv 6) pa_nil)) pe_int) pa_nil))))
  (pss_cons (ps_par (i := 8) (j := 9) (by rfl) sc_law.nd rfl rfl (by decide) rfl rfl (pa_cons (C8.pe_c c_play hr (by decide) rfl (pa_cons (pv 5) (pa_cons (pe_slice (My.sl_listK (K := K) rfl) (pv 6) po_none (po_some (pv 7))) pa_nil))) (pa_cons (C8.pe_c c_faults hr (by decide) rfl (pa_cons (pv 5) (pa_cons (pe_slice (My.sl_listK (K := K) rfl) (pv 6) po_none (po_some (pv 7))) pa_nil))) pa_nil)) (by rfl))
  (pss_cons (ps_par (i := 10) (j := 11) (by rfl) sc_law.nd rfl rfl (by decide) rfl rfl (pa_cons (C8.pe_c c_play hr (by decide) rfl (pa_cons (pv 5) (pa_cons (pv 6) pa_nil))) (pa_cons (C8.pe_c c_faults hr (by decide) rfl (pa_cons (pv 5) (pa_cons (pv 6) pa_nil))) pa_nil)) (by rfl))
  (pss_cons (ps_if (PW.pt (pw_or (pt_cmpR op_ne (pe_callB (My.len_seqK (K := K) rfl) (by rfl) T.len (by decide +kernel) (pa_cons (pv 10) pa_nil)) (pe_callB (My.len_seqK (K := K) rfl) (by rfl) T.len (by decide +kernel) (pa_cons (pv 6) pa_nil)) (nomark _)) (pw_or1 (pt_cmpR (My.neDK (K := K) rfl hr.units) (pv 8) (pe_slice (My.sl_listK (K := K) rfl) (pv 10) po_none (po_some (pv 7))) (nomark _)))))
  (pss_one (ps_ret pe_bl))
  pss_nil)
  (pss_cons (ps_if (pt_cmpR (My.neDK (K := K) rfl hr.units) (pv 9) (pe_lc (own := [("one", 12)]) (g := (gName 12)) (by rfl) sc_law.nd (My.pi_listK (K := K) rfl (pv 11)) (blkOk_by (N := N_law) (sc := defScope s_law) (by decide +kernel)) (fun _ _ _ _ _ => (pg_name (i := 12) sc_law.nd rfl (by first | exact Or.inl rfl | exact Or.inr rfl))) (fun _ _ _ _ _ => (pts_one (pt_cmpR op_lt (pe_ix (My.ix_tupK (K := K) rfl) (pv 12) pe_int (fun _ _ => rfl)) (pv 7) (nomark _)))) (fun _ _ _ _ _ => (pv 12))) (nomark _))
  (pss_one (ps_ret pe_bl))
  pss_nil)
  (pss_cons (ps_for PassesOwn.never rfl (pi_range1 (by rfl) T.range (pa_cons pe_int pa_nil)) (pg_name (i := 13) sc_law.nd rfl (by first | exact Or.inl rfl | exact Or.inr rfl))
  (pss_cons (ps_set (i := 7) sc_law.nd rfl (by first | exact Or.inl rfl | exact Or.inr rfl) (C8.pe_c c_law_drop hr (by decide) rfl (pa_cons (pe_ix (My.ix_listK (K := K) rfl) (pv 1) (pe_op op_mod (pe_op op_mulW (pv 13) pe_int) (pe_callB (My.len_seqK (K := K) rfl) (by rfl) T.len (by decide +kernel) (pa_cons (pv 1) pa_nil))) (fun _ _ => rfl)) (pa_cons (pe_op op_add (pe_callB (My.len_seqK (K := K) rfl) (by rfl) T.len (by decide +kernel) (pa_cons (pv 6) pa_nil)) pe_int) pa_nil))))
  (pss_cons (ps_set (i := 14) sc_law.nd rfl (by first | exact Or.inl rfl | exact Or.inr rfl) (pe_slice (My.sl_listK (K := K) rfl) (pv 6) po_none (po_some (pv 7))))
  (pss_cons (ps_if (PW.pt (pw_or (pt_cmpR (My.neDK (K := K) rfl hr.units) (C8.pe_c c_play hr (by decide) rfl (pa_cons (pv 5) (pa_cons (pv 14) pa_nil))) (pe_slice (My.sl_listK (K := K) rfl) (pv 10) po_none (po_some (pv 7))) (nomark _)) (pw_or1 (pt_cmpR (My.neDK (K := K) rfl hr.units) (C8.pe_c c_faults hr (by decide) rfl (pa_cons (pv 5) (pa_cons (pv 14) pa_nil))) (pe_lc (own := [("one", 12)]) (g := (gName 12)) (by rfl) sc_law.nd (My.pi_listK (K := K) rfl (pv 11)) (blkOk_by (N := N_law) (sc := defScope s_law) (by decide +kernel)) (fun _ _ _ _ _ => (pg_name (i := 12) sc_law.nd rfl (by first | exact Or.inl rfl | exact Or.inr rfl))) (fun _ _ _ _ _ => (pts_one (pt_cmpR op_lt (pe_ix (My.ix_tupK (K := K) rfl) (pv 12) pe_int (fun _ _ => rfl)) (pv 7) (nomark _)))) (fun _ _ _ _ _ => (pv 12))) (nomark _)))))
  (pss_one (ps_ret pe_bl))
  pss_nil)
  (pss_cons (ps_expr (My.pe_bmK (K := K) rfl PySem.F.plainAttrs_list PySem.F.slot_list_extend PySem.F.type_list_extend mt_extend (pv 14) (pa_cons (pe_slice (My.sl_listK (K := K) rfl) (pv 6) (po_some (pv 7)) po_none) pa_nil)))
  (pss_one (ps_if (pt_cmpR (My.neDK (K := K) rfl hr.units) (C8.pe_c c_play hr (by decide) rfl (pa_cons (pv 5) (pa_cons (pv 14) pa_nil))) (pv 10) (nomark _))
  (pss_one (ps_ret pe_bl))
  pss_nil)))))))
  (pss_one (ps_ret (pe_and (pe_cmpR (My.eqDK (K := K) rfl hr.units) (C8.pe_c c_play hr (by decide) rfl (pa_cons (pv 5) (pa_cons (pe_lst pa_nil) pa_nil))) (pe_lst pa_nil) (nomark _)) (pe_one (pe_cmpR (My.eqDK (K := K) rfl hr.units) (C8.pe_c c_faults hr (by decide) rfl (pa_cons (pv 5) (pa_cons (pe_lst pa_nil) pa_nil))) (pe_lst pa_nil) (nomark _)))))))))))))))))), ?_⟩
    refine ⟨_, rfl, a, ns, rfl, hS, hl, fun H1 p as hp0 s1 hp1 hne hasl has => ?_⟩
    obtain ⟨a0, ha0, at0⟩ : ∃ a0, a0 ∈ as ∧ atI (as.map V.ref) 0 = some (.ref a0) := by
      cases as with
      | nil => exact absurd rfl hne
      | cons x l => exact ⟨x, List.mem_cons_self .., atI_nat (show ((x :: l).map V.ref)[0]? = some (.ref x) from rfl)⟩
    obtain ⟨al, hal, atl⟩ : ∃ al, al ∈ as ∧ atI (as.map V.ref) (-1) = some (.ref al) := by
      have hpos : 0 < as.length := List.length_pos_iff.mpr hne
      have e := List.getElem?_eq_getElem (show as.length - 1 < as.length by omega)
      exact ⟨_, List.getElem_mem _, atI_m1 (n := as.length - 1) (by rw [List.length_map]; omega) (by rw [List.getElem?_map, e]; rfl)⟩
    have sp1 : Sprs H1 as 1 := fun x hx => (has x hx).2
    have lt100 : ∀ m : Nat, m ≤ 5000 → m < 2 ^ 100 := fun m h => Nat.lt_of_le_of_lt h (by decide)
    refine ⟨_, rfl, p, _, 0, _, rfl, rfl, SqL.of hp1, at0, ?_⟩
    refine ⟨_, rfl, by show 2 ≤ sizeLine; decide, fun l hl0 => ?_⟩
    have sl1 : Same H1 (upd H1 l (.lst [.int 3, .int 30])) := same_new hl0
    obtain ⟨_, _, _, hsp1, _⟩ := id (sp1 a0 ha0)
    have nal : a0 ≠ l := ne_of_none hsp1 hl0
    refine ⟨_, rfl, a0, 1, 2, rfl, (sp1 a0 ha0).same sl1, by decide, by decide, by decide, fun H2 k b2 s2 k0 k1 => ?_⟩
    have hl2 : H2 l = some (.lst [.int 3, .int 30]) := b2 _ _ (by simpa using nal.symm) upd_same
    obtain ⟨v, hv, hv0, hv1⟩ : ∃ v : Int, atI [V.int 3, V.int 30] k = some (.int v) ∧ 0 < v ∧ v ≤ 30 := by
      obtain e | e : k = ((0 : Nat) : Int) ∨ k = ((1 : Nat) : Int) := by omega
      · exact ⟨3, by rw [e]; exact atI_nat rfl, by decide, by decide⟩
      · exact ⟨30, by rw [e]; exact atI_nat rfl, by decide, by decide⟩
    have sp2 := (sp1.same sl1).draw b2 s2 (by decide)
    have hp2 := rawS b2 ((sp1 a0 ha0).same sl1) (sl1 _ _ hp1) (refs_no _)
    refine ⟨l, _, k, _, rfl, rfl, SqL.of hl2, hv, a0, 2, v, rfl, s2, by decide, hv0, Int.lt_of_le_of_lt hv1 (by decide), fun H3 kd b3 s3 kd0 kd1 => ⟨_, _, rfl, rfl, ?_⟩⟩
    have sp3 := sp2.draw b3 s3 (by decide)
    have hp3 := rawS b3 s2 hp2 (refs_no _)
    refine ⟨_, rfl, a0, 3, rfl, s3, by decide, fun H4 rl qs rs b4 s4 hrl hrl0 hqr hrs8 hgood => ⟨_, _, rfl, ?_⟩⟩
    have sp4 := sp3.draw b4 s4 (by decide)
    have hp4 := rawS b4 s3 hp3 (refs_no _)
    have hg : GoodB rs := ⟨hrs8, hgood⟩
    refine ⟨_, rfl, _, rfl, rl, 1 + kd, qs, rs, rfl, SqL.of hrl, by omega, by omega, hqr, hrs8, hgood, fun H5 W nW s5 hBk5 => ?_⟩
    generalize 1 + kd = d at hBk5
    have sp5 := sp4.same s5
    have hp5 := s5 _ _ hp4
    refine ⟨_, rfl, p, as, 93, rfl, hp5, sp5, by decide, hasl, fun H6 u us ds b6 sp6 hu6 nu6 dd6 pl6 len6 => ⟨_, _, rfl, ?_⟩⟩
    have hBk6 := BookAt.drawA b6 sp5 hBk5
    have hp6 := rawA b6 sp5 hp5 (refs_no _)
    have hul : us.length = ds.length := by
      have := dd6.length
      rw [List.length_map] at this
      exact this
    refine ⟨_, rfl, 1, rfl, p, _, -1, _, rfl, rfl, SqL.of hp6, atl, _, rfl, u, _, rfl, .inl (SqL.of hu6), _, _, rfl, rfl, ?_⟩
    rw [List.length_map, hul]
    refine ⟨al, 93 + 1200, (ds.length : Int) + 1, rfl, sp6 _ hal, by decide, by omega, Int.lt_of_le_of_lt (show (ds.length : Int) + 1 ≤ 1000 by omega) (by decide), fun H7 c b7 s7 c0 c1 => ?_⟩
    obtain ⟨c, rfl⟩ : ∃ n : Nat, c = (n : Int) := ⟨c.toNat, by omega⟩
    have hc : c ≤ ds.length := by omega
    have sp7 := sp6.draw b7 s7 (by decide)
    have hp7 := rawS b7 (sp6 _ hal) hp6 (refs_no _)
    have hu7 := rawS b7 (sp6 _ hal) hu6 (refs_no _)
    have hBk7 := BookAt.draw b7 (sp6 _ hal) hBk6
    have dd7 := DeedsAt.map (fun _ _ t => But.tupS b7 (sp6 _ hal) t) dd6
    have hlen9 : ds.length ≤ 50000 := by omega
    have hlc : (ds.take c).length ≤ 50000 := by rw [List.length_take]; omega
    -- the beginning
    refine ⟨_, rfl, _, rfl, _, rfl, _, rfl, u, _, rfl, SqL.of hu7, fun sl hsl => ?_⟩
    rw [cut_to]
    have s8 : Same H7 (upd H7 sl (.lst ((us.map V.ref).take c))) := same_new hsl
    refine ⟨W, sl, d, rs, (us.map V.ref).take c, ds.take c, rfl, hBk7.same s8, hg, SqL.of upd_same, paired_take c (DeedsAt.same s8 dd7), pl6.take c, hlc, fun H8 e1 t8 hR8 => ?_⟩
    have s78 := s8.trans t8
    refine ⟨_, rfl, _, rfl, _, rfl, _, rfl, u, _, rfl, SqL.of (s78 _ _ hu7), fun sm hsm => ?_⟩
    rw [cut_to]
    have s9 : Same H8 (upd H8 sm (.lst ((us.map V.ref).take c))) := same_new hsm
    refine ⟨W, sm, d, rs, (us.map V.ref).take c, ds.take c, rfl, hBk7.same (s78.trans s9), hg, SqL.of upd_same, paired_take c (DeedsAt.same (s78.trans s9) dd7), pl6.take c, hlc, fun H9 f1 t9 hF9 => ⟨_, _, rfl, ?_⟩⟩
    have s79 := s78.trans (s9.trans t9)
    -- the whole
    refine ⟨_, rfl, _, rfl, W, u, d, rs, us.map V.ref, ds, rfl, hBk7.same s79, hg, SqL.of (s79 _ _ hu7), DeedsAt.same s79 dd7, pl6, hlen9, fun H10 R t10 hR10 => ?_⟩
    have s710 := s79.trans t10
    refine ⟨_, rfl, _, rfl, W, u, d, rs, us.map V.ref, ds, rfl, hBk7.same s710, hg, SqL.of (s710 _ _ hu7), DeedsAt.same s710 dd7, pl6, hlen9, fun H11 Wr t11 hF11 => ⟨_, _, rfl, ?_⟩⟩
    have s711 := s710.trans t11
    have hrl := runF_len rs d ds
    have hw0 := run_words rs d ds
    have hwords := fl_words 0 _ hw0
    have hwordsc := fl_words 0 _ (run_words rs d (ds.take c))
    have htake : ∀ k, k ≤ ds.length → (runF rs d (ds.take k)).2.2 = (runF rs d ds).2.2.take k := fun k hk => run_take rs d ds k hk
    have hfll := fl_len 0 _ (run_w rs d ds)
    have hE := hR8.due
    have hFe := hF9.due
    rw [htake c hc] at hE hFe hwordsc
    generalize hUs : (runF rs d ds).2.2 = Us at hR10 hF11 hrl hw0 hwords htake hE hFe hwordsc hfll
    have lb : LawB K p W u R Wr as us d rs ds Us H11 (93 + 1200 + 1) := ⟨s711 _ _ hp7, sp7.same s711, hBk7.same s711, s711 _ _ hu7, DeedsAt.same s711 dd7, (hR10.dueN (sp7.same s79)).same t11, hF11.due⟩
    obtain ⟨zs, hz1, hz2, hz3⟩ := lb.dR
    have hzl : zs.length = ds.length := by rw [hz2.length, hrl]
    refine ⟨_, rfl, R, _, rfl, .inl (SqL.of hz1), _, rfl, u, _, rfl, .inl (SqL.of lb.hu), rfl, _, rfl, ?_⟩
    have elen : (!decide (V.int (((zs.map fun z => V.ref z.1).length : Nat) : Int) = V.int (((us.map V.ref).length : Nat) : Int))) = false := by
      rw [List.length_map, List.length_map, hzl, hul, decide_eq_true rfl]
      rfl
    rw [elen]
    refine ⟨_, rfl, _, rfl, _, rfl, _, rfl, R, _, rfl, SqL.of hz1, fun sr hsr => ?_⟩
    rw [cut_to]
    have s12 : Same H11 (upd H11 sr (.lst ((zs.map fun z => V.ref z.1).take c))) := same_new hsr
    have hEr : DueAt _ sr (Us.take c) := due_take (upd_same : upd H11 sr (.lst ((zs.map fun z => V.ref z.1).take c)) sr = _) (paired_map (fun z U _ hz => ItAt.same s12 hz) hz2)
    refine ⟨.list ((Us.take c).map repD), .list ((Us.take c).map repD), ((hE.same (s9.trans (t9.trans (t10.trans t11)))).same s12).dp, hEr.dp, (sm_reps _).shaped (by decide), (sm_reps _).shaped (by decide), ?_⟩
    rw [(sm_reps _).refl]
    generalize upd H11 sr (.lst ((zs.map fun z => V.ref z.1).take c)) = H12 at s12 hEr
    have lb12 := lb.same s12
    have hFe12 := hFe.same ((t10.trans t11).trans s12)
    obtain ⟨ws, hw1, hw2⟩ := lb12.fW
    have hwsl := hw2.length
    refine ⟨_, rfl, _, rfl, _, rfl, Wr, rfl, ⟨_, SqL.of hw1⟩, fun D hD => ?_⟩
    refine lc_list (K := K) (a := Wr) (xs := ws.map V.ref) (fun i H' => Same H12 H' ∧ ∃ vs : List Addr, H' D = some (.lst (vs.map V.ref)) ∧ Paired (FItAt H') vs (((fl 0 Us).take i).filter fun x => decide (x.2 < c))) ⟨same_new hD, [], upd_same, .nil⟩ (fun i H' _ z => SqL.of (z.1 _ _ hw1)) ?_ ?_
    · rintro i y H' hi ⟨s', vs, hD', hv'⟩
      obtain ⟨z, hz, rfl⟩ := map_get hi
      obtain ⟨x, hx, ht⟩ := paired_at hw2 hz
      have ht' : H' z = some (.tup [.str x.1, .int (x.2 : Nat)]) := s' _ _ ht
      have hvl : vs.length ≤ 2 * Us.length := by
        rw [hv'.length]
        refine Nat.le_trans (List.length_filter_le _ _) ?_
        rw [List.length_take]
        omega
      refine ⟨rfl, _, rfl, z, _, 1, _, rfl, rfl, SqT.of ht', rfl, _, rfl, _, _, rfl, rfl, _, rfl, L2.ite2 (fun g => ?_) (fun g => ?_)⟩
      · have g2 : x.2 < c := by
          have := of_decide_eq_true g
          omega
        have ef : [x].filter (fun x => decide (x.2 < c)) = [x] := by
          rw [List.filter_cons, decide_eq_true g2]
          rfl
        refine ⟨_, rfl, _, hD', by rw [List.length_map]; exact Nat.lt_of_le_of_lt (show vs.length ≤ 100000 by omega) (by decide), same_upd s' hD, vs ++ [z], by rw [upd_same, List.map_append]; rfl, ?_⟩
        rw [take_more hx, List.filter_append, ef]
        have old : ∀ (t : Addr) (x : Str × Nat), FItAt H' t x → FItAt (upd H' D (.lst (vs.map V.ref ++ [.ref z]))) t x := fun t x e => by
          show upd H' D _ t = _
          rw [upd_ne (ne_of e hD' (fun e => by cases e))]
          exact e
        exact Paired.snoc (paired_map (fun t x _ hx => old t x hx) hv') (old z x ht')
      · have g2 : ¬ x.2 < c := fun e => g (decide_eq_true (by omega))
        have ef : [x].filter (fun x => decide (x.2 < c)) = [] := by
          rw [List.filter_cons, decide_eq_false g2]
          rfl
        refine ⟨s', vs, hD', ?_⟩
        rw [take_more hx, List.filter_append, ef, List.append_nil]
        exact hv'
    · rintro H13 ⟨s13, vs, hD13, hv13⟩
      have efull : (fl 0 Us).take (ws.map V.ref).length = fl 0 Us := List.take_of_length_le (by rw [List.length_map]; omega)
      rw [efull, fl_cut0] at hv13
      have hFc : FltDue H13 D (fl 0 (Us.take c)) := ⟨vs, hD13, hv13⟩
      refine ⟨fltD (fl 0 (Us.take c)), fltD (fl 0 (Us.take c)), (hFe12.same s13).dp, hFc.dp, (sm_flt hwordsc).shaped (by decide), (sm_flt hwordsc).shaped (by decide), ?_⟩
      rw [(sm_flt hwordsc).refl]
      have lb13 := lb12.same s13
      refine ⟨_, rfl, 2, rfl, by decide, by decide, ?_⟩
      refine for_range (lo := 0) (n := (2 : Int).toNat) (fun i σ H' => ∃ (c2 : Int) (o13 o14 : Option V), σ = [some (.ref a), some (.ref p), some (.ref a0), some (.int (1 + kd)), some (.ref rl), some (.ref W), some (.ref u), some (.int c2), some (.ref e1), some (.ref f1), some (.ref R), some (.ref Wr), none, o13, o14] ∧
        LawB K p W u R Wr as us d rs ds Us H' (93 + 1200 + 1 + i)) ⟨_, _, _, rfl, lb13⟩ ?_ ?_
      · rintro i σ H14 hi ⟨c2, o13, o14, rfl, lb14⟩
        have hi2 : i < 2 := hi
        have hposl : 0 < as.length := List.length_pos_iff.mpr hne
        obtain ⟨j, hj, hjl⟩ : ∃ j : Nat, (0 + (i : Int)) * 17 % (as.length : Int) = (j : Int) ∧ j < as.length := by
          have g1 := Int.emod_nonneg ((0 + (i : Int)) * 17) (show (as.length : Int) ≠ 0 by omega)
          have g2 := Int.emod_lt_of_pos ((0 + (i : Int)) * 17) (show 0 < (as.length : Int) by omega)
          exact ⟨((0 + (i : Int)) * 17 % (as.length : Int)).toNat, by omega, by omega⟩
        have hax : as[j] ∈ as := List.getElem_mem hjl
        have hmul : CMulW (0 + (i : Int)) 17 := wide_mul (a := 10) (b := 10) (Nat.lt_of_le_of_lt (show (0 + (i : Int)).natAbs ≤ 2 by omega) (by decide)) (by decide) (by decide) (by decide) (by decide)
        refine ⟨_, rfl, _, rfl, _, _, rfl, rfl, hmul, _, rfl, p, _, rfl, .inl (SqL.of lb14.hp), _, _, rfl, rfl, (by rw [List.length_map]; omega), p, _, _, .ref as[j], rfl, rfl, SqL.of lb14.hp, at_of (j := j) (by rw [List.length_map]; exact hj) (by rw [List.getElem?_map, List.getElem?_eq_getElem hjl]; rfl), ?_⟩
        refine ⟨_, rfl, u, _, rfl, .inl (SqL.of lb14.hu), _, _, rfl, rfl, ?_⟩
        rw [List.length_map, hul]
        refine ⟨as[j], 93 + 1200 + 1 + i, (ds.length : Int) + 1, rfl, lb14.sp _ hax, lt100 _ (by omega), by omega, Int.lt_of_le_of_lt (show (ds.length : Int) + 1 ≤ 1000 by omega) (by decide), fun H15 c5 b15 s15 c50 c51 => ?_⟩
        obtain ⟨c5, rfl⟩ : ∃ n : Nat, c5 = (n : Int) := ⟨c5.toNat, by omega⟩
        have hc5 : c5 ≤ ds.length := by omega
        have lb15 := lb14.draw hax b15 s15 (Nat.le_succ _)
        have hlc5 : (ds.take c5).length ≤ 50000 := by rw [List.length_take]; omega
        refine ⟨_, rfl, _, rfl, _, rfl, u, _, rfl, SqL.of lb15.hu, fun row hrow => ?_⟩
        rw [cut_to]
        have s16 : Same H15 (upd H15 row (.lst ((us.map V.ref).take c5))) := same_new hrow
        have hrow16 : upd H15 row (.lst ((us.map V.ref).take c5)) row = some (.lst ((us.map V.ref).take c5)) := upd_same
        have lb16 := lb15.same s16
        generalize upd H15 row (.lst ((us.map V.ref).take c5)) = H16 at s16 hrow16 lb16
        refine ⟨_, rfl, _, rfl, W, row, d, rs, (us.map V.ref).take c5, ds.take c5, rfl, lb16.bk, hg, SqL.of hrow16, paired_take c5 lb16.dd, pl6.take c5, hlc5, fun H17 g1 t17 hR17 => ?_⟩
        have lb17 := lb16.same t17
        have hrow17 := t17 _ _ hrow16
        have hE17 := hR17.due
        rw [htake c5 hc5] at hE17
        obtain ⟨zs5, hz15, hz25, hz35⟩ := lb17.dR
        refine ⟨_, rfl, _, rfl, _, rfl, R, _, rfl, SqL.of hz15, fun sr5 hsr5 => ?_⟩
        rw [cut_to]
        have s18 : Same H17 (upd H17 sr5 (.lst ((zs5.map fun z => V.ref z.1).take c5))) := same_new hsr5
        have hEr5 : DueAt _ sr5 (Us.take c5) := due_take (upd_same : upd H17 sr5 (.lst ((zs5.map fun z => V.ref z.1).take c5)) sr5 = _) (paired_map (fun z U _ hz => ItAt.same s18 hz) hz25)
        refine ⟨.list ((Us.take c5).map repD), .list ((Us.take c5).map repD), (hE17.same s18).dp, hEr5.dp, (sm_reps _).shaped (by decide), (sm_reps _).shaped (by decide), ?_⟩
        rw [(sm_reps _).refl]
        have lb18 := lb17.same s18
        have hrow18 := s18 _ _ hrow17
        generalize upd H17 sr5 (.lst ((zs5.map fun z => V.ref z.1).take c5)) = H18 at s18 hEr5 lb18 hrow18
        refine ⟨_, rfl, _, rfl, _, rfl, W, row, d, rs, (us.map V.ref).take c5, ds.take c5, rfl, lb18.bk, hg, SqL.of hrow18, paired_take c5 lb18.dd, pl6.take c5, hlc5, fun H22 f5 t22 hF22 => ?_⟩
        have lb22 := lb18.same t22
        have hrow22 := t22 _ _ hrow18
        have hFe22 := hF22.due
        rw [htake c5 hc5] at hFe22
        have hwords5 : ∀ x ∈ fl 0 (Us.take c5), PyData.canLay0 (.str x.1) = true := fl_words 0 _ fun U hU => hw0 U (List.mem_of_mem_take hU)
        obtain ⟨ws5, hw15, hw25⟩ := lb22.fW
        have hwsl5 := hw25.length
        refine ⟨_, rfl, Wr, rfl, ⟨_, SqL.of hw15⟩, fun D5 hD5 => ?_⟩
        refine lc_list (K := K) (a := Wr) (xs := ws5.map V.ref) (fun i H' => Same H22 H' ∧ ∃ vs : List Addr, H' D5 = some (.lst (vs.map V.ref)) ∧ Paired (FItAt H') vs (((fl 0 Us).take i).filter fun x => decide (x.2 < c5))) ⟨same_new hD5, [], upd_same, .nil⟩ (fun i H' _ z => SqL.of (z.1 _ _ hw15)) ?_ ?_
        · rintro i y H' hi ⟨s', vs, hD', hv'⟩
          obtain ⟨z, hz, rfl⟩ := map_get hi
          obtain ⟨x, hx, ht⟩ := paired_at hw25 hz
          have ht' : H' z = some (.tup [.str x.1, .int (x.2 : Nat)]) := s' _ _ ht
          have hvl : vs.length ≤ 2 * Us.length := by
            rw [hv'.length]
            refine Nat.le_trans (List.length_filter_le _ _) ?_
            rw [List.length_take]
            omega
          refine ⟨rfl, _, rfl, z, _, 1, _, rfl, rfl, SqT.of ht', rfl, _, rfl, _, _, rfl, rfl, _, rfl, L2.ite2 (fun g => ?_) (fun g => ?_)⟩
          · have g2 : x.2 < c5 := by
              have := of_decide_eq_true g
              omega
            have ef : [x].filter (fun x => decide (x.2 < c5)) = [x] := by
              rw [List.filter_cons, decide_eq_true g2]
              rfl
            refine ⟨_, rfl, _, hD', by rw [List.length_map]; exact Nat.lt_of_le_of_lt (show vs.length ≤ 100000 by omega) (by decide), same_upd s' hD5, vs ++ [z], by rw [upd_same, List.map_append]; rfl, ?_⟩
            rw [take_more hx, List.filter_append, ef]
            have old : ∀ (t : Addr) (x : Str × Nat), FItAt H' t x → FItAt (upd H' D5 (.lst (vs.map V.ref ++ [.ref z]))) t x := fun t x e => by
              show upd H' D5 _ t = _
              rw [upd_ne (ne_of e hD' (fun e => by cases e))]
              exact e
            exact Paired.snoc (paired_map (fun t x _ hx => old t x hx) hv') (old z x ht')
          · have g2 : ¬ x.2 < c5 := fun e => g (decide_eq_true (by omega))
            have ef : [x].filter (fun x => decide (x.2 < c5)) = [] := by
              rw [List.filter_cons, decide_eq_false g2]
              rfl
            refine ⟨s', vs, hD', ?_⟩
            rw [take_more hx, List.filter_append, ef, List.append_nil]
            exact hv'
        · rintro H23 ⟨s23, vs, hD23, hv23⟩
          have efull5 : (fl 0 Us).take (ws5.map V.ref).length = fl 0 Us := List.take_of_length_le (by rw [List.length_map]; omega)
          rw [efull5, fl_cut0] at hv23
          have hFc5 : FltDue H23 D5 (fl 0 (Us.take c5)) := ⟨vs, hD23, hv23⟩
          refine ⟨fltD (fl 0 (Us.take c5)), fltD (fl 0 (Us.take c5)), (hFe22.same s23).dp, hFc5.dp, (sm_flt hwords5).shaped (by decide), (sm_flt hwords5).shaped (by decide), ?_⟩
          rw [(sm_flt hwords5).refl]
          have lb23 := lb22.same s23
          have hrow23 := s23 _ _ hrow22
          refine ⟨_, rfl, _, rfl, .inl ⟨rfl, _, SqL.of hrow23⟩, _, rfl, _, rfl, _, rfl, u, _, rfl, SqL.of lb23.hu, fun s2 hs2 => ?_⟩
          rw [cut_from (by rw [List.length_map, hul]; exact hc5)]
          have s24 : Same H23 (upd H23 s2 (.lst ((us.map V.ref).drop c5))) := same_new hs2
          refine ⟨row, s2, _, _, rfl, rfl, s24 _ _ hrow23, upd_same, ?_, ?_⟩
          · rw [← List.length_append, List.take_append_drop, List.length_map, hul]
            exact Nat.le_of_lt (Nat.lt_of_le_of_lt (show ds.length ≤ 1000 by omega) (by decide))
          rw [List.take_append_drop]
          have lb15b := lb15.same (same_upd (o := .lst (us.map V.ref)) (s16.trans (t17.trans (s18.trans (t22.trans (s23.trans s24))))) hrow)
          refine ⟨_, rfl, _, rfl, W, row, d, rs, us.map V.ref, ds, rfl, lb15b.bk, hg, SqL.of upd_same, lb15b.dd, pl6, hlen9, fun H25 g5 t25 hR25 => ?_⟩
          rw [hUs] at hR25
          have lb25 := lb15b.same t25
          refine ⟨_, rfl, .list (Us.map repD), .list (Us.map repD), hR25.due.dp, lb25.dR.due.dp, (sm_reps _).shaped (by decide), (sm_reps _).shaped (by decide), ?_⟩
          rw [(sm_reps _).refl]
          exact ⟨_, rfl, _, _, _, rfl, lb25⟩
      · rintro σ H14 ⟨c2, o13, o14, rfl, lb14⟩
        have hnilP : Playable [] := ⟨Nat.zero_le _, fun i p t s e => (by cases e)⟩
        refine ⟨_, rfl, Nat.zero_le _, fun n1 hn1 => ?_⟩
        have s15 := same_new (o := .lst []) hn1
        refine ⟨W, n1, d, rs, [], [], rfl, lb14.bk.same s15, hg, SqL.of upd_same, .nil, hnilP, Nat.zero_le _, fun H16 g1 t16 hR16 => ⟨Nat.zero_le _, fun n2 hn2 => ?_⟩⟩
        have s17 := same_new (o := .lst []) hn2
        refine ⟨.list [], .list [], (hR16.due.same s17).dp, nilD upd_same, sm_nil.shaped (by decide), sm_nil.shaped (by decide), ?_⟩
        refine ⟨_, rfl, _, rfl, Nat.zero_le _, fun n3 hn3 => ?_⟩
        have lb18 := lb14.same ((s15.trans t16).trans (s17.trans (same_new (o := .lst []) hn3)))
        refine ⟨W, n3, d, rs, [], [], rfl, lb18.bk, hg, SqL.of upd_same, .nil, hnilP, Nat.zero_le _, fun H19 g2 t19 hR19 => ⟨Nat.zero_le _, fun n4 hn4 => ?_⟩⟩
        have s20 := same_new (o := .lst []) hn4
        exact ⟨.list [], .list [], (hR19.due.same s20).dp, nilD upd_same, sm_nil.shaped (by decide), sm_nil.shaped (by decide), q _⟩
theorem c_law (T : Txt K mg) : C8.Cal P w K mg base 9 "law" (sp_law K) [] := by
  obtain ⟨fd, F⟩ := T.f_law
  exact ⟨_, fd, _, _, ok_law T F, T.g_law, F.kp, F.bindsN (fun _ _ _ _ _ _ us hl => match us, hl with | [_], _ => rfl), .nil⟩
end
end K32

namespace K32
open PySem PySem.Spec PyProof.Rows L2 My
abbrev spLaw (K : PySem.W.Frag) : Sp := sp_law K
theorem law_end {P : Program} {w : World} {K : PySem.W.Frag} {mg : Str → Option Value} {fa : Addr} (T : Txt K mg) (hmg : mg ("law" : Str) = some (.ref fa)) :
    ∃ fd, (∀ (s : Shared) (u : Value), BindsTo s fd ⟨[u], []⟩ [("script", u)]) ∧ ∀ base : Heap, K.In base → base.Ns mainGlobals mg → FnOk P w K mg base L2.CX0 9 fa fd ["script"] (spLaw K) := by
  obtain ⟨fd, F⟩ := T.f_law
  have e : fa = He.fAd K d_law.at_ := by
    have h := T.g_law
    rw [hmg] at h
    exact Value.ref.inj (Option.some.inj h)
  subst e
  exact ⟨fd, fun s u => F.bindsA (ps := ["script"]) (fun _ _ _ _ _ _ us hl => match us, hl with | [_], _ => rfl) s [u] rfl, fun base _ _ => ok_law T F⟩
end K32

open PySem PySem.W PySem.Calls PyProof.Rows in
set_option maxRecDepth 100000 in
set_option maxHeartbeats 0 in
theorem PySem.Challenge.cw_lockerwall_k32_whole_beginnings_holds : PySem.Challenge.rw_lockerwall_k32_whole_beginnings.Holds := by
  w_on; o_law
  refine HandSHeadRun.head_any (r := OpenLaw.row PySem.Challenge.rw_lockerwall_k32_whole_beginnings) (q := view (OpenLaw.row PySem.Challenge.rw_lockerwall_k32_whole_beginnings).prog [43]) (H := K32.hk) (ob := K32.ob) (M := 6000) (loose := K32.loose) (d := HandSHeadRun.topDef (OpenLaw.row PySem.Challenge.rw_lockerwall_k32_whole_beginnings).prog 43) (kwd := []) K32.ob_eq
    (by kernel_rfl) (fun s => by kernel_rfl) K32.run (by kernel_rfl) (by kernel_rfl) (by kernel_rfl) (by rfl) (by first | assumption | decide +kernel) (by decide +kernel) ⟨rfl, rfl, rfl, rfl, rfl, by decide +kernel⟩ ?hw ?hc
  case hw => w_witness2
  case hc =>
    refine L2.walk_ofE (l := PySem.Challenge.rw_lockerwall_k32_whole_beginnings) (n := 63) (k := 9) (x := "script") (CX := L2.CX0) rfl (by decide) (by kernel_rfl) ⟨rfl, by decide, by decide⟩ ?F (fun _ _ _ _ z => z)
    intro w mg fa h Y G hmg0
    obtain ⟨K, KX, c, e⟩ := Y
    have hmg : mg ("law" : PySem.Str) = some (.ref fa) := by
      have e : (HandSHeadRun.topDef (OpenLaw.row PySem.Challenge.rw_lockerwall_k32_whole_beginnings).prog 43).name = ("law" : PySem.Str) := by kernel_rfl
      rw [← e]
      exact hmg0
    obtain ⟨fd, hb, hF⟩ := K32.law_end (P := (PySem.Challenge.rw_lockerwall_k32_whole_beginnings).prog) (w := w) ⟨h, KX, G, c, e⟩ hmg
    exact ⟨K, fd, K32.spLaw K, KX, hb, fun H a ns hl hO hS => ⟨a, ns, rfl, hS, hl, fun _ => rfl⟩, hF⟩

