import PyProof.Rows.All
import Wide.All
import OpenK.AllK
import Wide.FinOn
import HandS.ForMost
import HandS.Wide
import HandS.IsInst
import HandS.Defaults
import HandS.Zip
import HandS.Conv
import HandS.More
import HandS.Flow
import HandS.Evl
import HandS.Replace
import HandS.Codes
import HandS.Style
import KE.KRevSl
import HandS.HeadHook1
import HandS.HeadHook2
import HandS.Head2
import HandS.HeadEnd
import PyProof.ListStr
import HandS.Exc
import HandS.ExcInit
import HandS.ExcField
import HandS.ExcIs
import HandS.ExcValue
import HandS.ExcOwn
import HandS.Lambda
import HandS.EndTab
import HandS.HeadWalk
import HandS.HeadHook4
import HandS.TryOnly
import KE.KExcIs
import PyProof.WalkInts
import PySem.Challenge.RW_twofarplayers_k08_whole_numbers_by_heari
set_option Elab.async false
set_option linter.all false
set_option maxRecDepth 100000
set_option maxHeartbeats 2000000
/-! rules of my own, and short words, for the laws of Twofarplayers -/
namespace Tf
open PySem PySem.Spec PyProof.Rows L2

/-! ### more rules -/
section
variable {X : Cx}
/-- ** of a great base -/
def CPowW (i j : Int) : Prop := 0 ≤ j ∧ (Builtin.Int.intBits i : Int) * j ≤ 2 ^ 27
theorem op_powW : OpR X (binaryOp .Pow) (rI CPowW fun i j => .int (i ^ j.toNat)) := opI fun _ _ _ _ _ _ _ hc q => pow_int hc.1 hc.2 q
def rMulS : R2 := fun x y H Q => ∃ z n, x = .str z ∧ y = .int n ∧ MulOk z n ∧ Q (.str (Txt.mul z n)) H
theorem op_mul_str : OpR X (binaryOp .Mult) rMulS := by
  intro pins s σ H x y v u Q I rx ry h
  obtain ⟨z, n, rfl, rfl, ok, q⟩ := h
  obtain ⟨t, rfl⟩ := rx
  obtain ⟨t', rfl⟩ := ry
  exact SB.mul ok fun t' k => ⟨.str _, H, I.tok _, ⟨_, rfl⟩, q⟩
/-- the signs of a text, a list -/
def signsV (z : Str) : List V := z.cps.toList.map fun c => V.str ⟨#[c]⟩
theorem vals_signs {z : Str} {acc : Array Value} (h : ItemsOf (SignAt z) acc z.cps.size) : Vals (signsV z) acc.toList := by
  have key : ∀ (cs : List Nat) (us : List Value), us.length = cs.length → (∀ (j : Nat) (v : Value), us[j]? = some v → ∃ c u, cs[j]? = some c ∧ v = .str ⟨#[c]⟩ u) → Vals (cs.map fun c => V.str ⟨#[c]⟩) us := by
    intro cs
    induction cs with
    | nil =>
      intro us hl _
      cases us with
      | nil => exact .nil
      | cons _ _ => cases hl
    | cons c cs ih =>
      intro us hl hv
      cases us with
      | nil => cases hl
      | cons u us =>
        obtain ⟨c', t, e1, e2⟩ := hv 0 u rfl
        have e3 : c = c' := Option.some.inj e1
        subst e3
        exact .cons ⟨t, e2⟩ (ih us (Nat.succ.inj hl) fun j v e => hv (j + 1) v e)
  refine key z.cps.toList acc.toList (by simpa using h.1) fun j v e => ?_
  obtain ⟨c, u, e1, e2⟩ := h.2 j v (by simpa using e)
  exact ⟨c, u, by simpa using e1, e2⟩
def rListStr : List V → Hp → VK → Prop := fun xs H Q => ∃ z, xs = [.str z] ∧ z.length ≤ sizeLine ∧ ∀ l, H l = none → Q (.ref l) (upd H l (.lst (signsV z)))
theorem call_list_txt (hc : X.calm = true) : CallR X (.type "list") rListStr := by
  intro pins s σ H xs us Q I r h
  obtain ⟨z, rfl, hz, q⟩ := h
  obtain ⟨u, rfl, t, rfl⟩ := vals1 r
  refine call_list_str (I.ok.hd hc) z t (hn := hz) fun h' tk acc' c' kp e hacc => ?_
  have r' := vals_signs hacc
  have hlen := r'.length
  refine ⟨.ref s.heap.objs.size, _, I.laid (t' := tk) kp (Nat.le_refl _) (show ObjOk X.prog X.w _ h' _ (.lst (signsV z)) from ⟨?_, acc'.toList, c', r', by simpa using e⟩), rfl, q _ (I.hok.fresh (Nat.le_refl _))⟩
  rw [hlen]
  have := hacc.1
  simp only [Array.length_toList]
  rw [this]
  exact hz
end
/-! ### calls by keywords alone -/
section
variable {X : Cx} {CX : CXT} {k n : Nat} {f : Addr} {fd : FuncData} {ps ks : List Str} {sp : Sp} {E : XK} {x : Str} {p pos : Pos} {kws : List Keyword} {tk : TA} {g : List Value → List Value → List Value} {gV : List V → List V → List V}
theorem pe_callN0 (F : FnOk X.prog X.w X.K X.mg X.base CX k f fd ps sp) (hr : Room k X.A) (hg : Gl X x) (hm : X.mg x = some (.ref f)) (hk : PySem.W.keepIn X.K (.ref f) = true) (hb : KBn X.K fd ps 0 ks g gV) (hx : Passes CX X E)
    (hkw : PK X kws tk) (hall : (backToKw pos (keywordEach kws X.env)).all (·.1.isSome) = true := by rfl) (hks : (backToKw pos (keywordEach kws X.env)).filterMap (·.1) = ks := by rfl)
    (hdb : (x == ("__debug__" : Str)) = false := by decide)
    (hpl : ((backTo pos (starEach [] X.env)).any (·.1) || (backToKw pos (keywordEach kws X.env)).any (·.1.isNone)) = false := by rfl) :
    PE X (.Call (.Name x p) [] kws pos) (tCallN 0 ks.length sp gV E tNil tk) := by
  refine ⟨fun pins s σ H Q I h => ?_⟩
  refine wpAny_Call_Name_kw (ld_glob I hg hm ?_ hdb)
  refine PySem.W.callWith_KW0 (h₀ := X.base) I.ok.mod.kin hk hall ?_ hpl
  refine thn (hkw.run pos pins s σ H _ I h) fun ws s2 ⟨zs, H2, I2, rz, l1, l2, q2⟩ => ⟨I2.kIn, ?_⟩
  rw [hks]
  exact run_fnN F hr hb hx I2 (us := []) (vs := []) .nil rz rfl l2 q2
end
section
variable {K : PySem.W.Frag} {x qual : Str} {params : Arguments} {body : List Stmt} {scope : Scope} {f : Addr} {fd : FuncData} {ps : List Str}
theorem kbN (F : FunD K x qual params body scope [] [] f fd) (n : Nat) (ks : List Str) (g : {α : Type} → List α → List α → List α)
    (hrel : ∀ {vs zs : List V} {us ws : List Value}, Vals vs us → Vals zs ws → Vals (g vs zs) (g us ws))
    (h : ∀ (kV doc pm : Value) (an : Option Addr) (cdv ct : Value) (us ws : List Value), us.length = n → ws.length = ks.length → bindArgs (PySem.W.fnOf x qual params body scope .none kV doc pm an cdv ct) ⟨us, ks.zip ws⟩ = pure (ps.zip (g us ws))) :
    KBn K fd ps n ks (fun us ws => g us ws) (fun vs zs => g vs zs) := by
  obtain ⟨oc, od, dV, kV, doc, pm, an, cdv, ct, osl, rfl, lk, hcd, hD, hK⟩ := F.ex
  rcases hD with ⟨_, rfl⟩ | ⟨e, _⟩
  · exact ⟨fun s us ws X l1 l2 => .of_eq (h kV doc pm an cdv ct us ws l1 l2), fun r1 r2 => hrel r1 r2⟩
  · exact absurd rfl e
end

/-! ### a def that is there, and its promise -/
abbrev FnP (K : PySem.W.Frag) (x : Str) (st : Stmt) (f : Addr) (fd : FuncData) : Prop := FunD K x x (defArgs st) (defBody st) (defScope st) [] [] f fd
/-- where the def stands, how it is bound, and what it promises -/
structure Ok (P : Program) (w : World) (K : PySem.W.Frag) (mg : Str → Option Value) (base : Heap) (CX : CXT) (k : Nat) (x : Str) (st : Stmt) (ps : List Str) (sp : Sp) : Prop where
  ex : ∃ f fd, mg x = some (.ref f) ∧ FnP K x st f fd ∧ Binds K fd ps [] ∧ FnOk P w K mg base CX k f fd ps sp
section
variable {X : Cx} {CX : CXT} {k j n : Nat} {st : Stmt} {ps ks : List Str} {sp : Sp} {E : XK} {x : Str} {p pos : Pos} {e : Expr} {es : List Expr} {kws : List Keyword} {t tk : TA} {g : {α : Type} → List α → List α → List α}
theorem pe_cl (F : Ok X.prog X.w X.K X.mg X.base CX k x st ps sp) (hr : Room j X.A) (hg : Gl X x) (hx : Passes CX X E) (ha : PA X (e :: es) t) (hj : k ≤ j := by decide)
    (hdb : (x == ("__debug__" : Str)) = false := by decide) (he : starEach (e :: es) X.env = (false, eval e X.env) :: starEach es X.env := by rfl) (hpl : ((backTo pos (starEach (e :: es) X.env)).any (·.1) || (backToKw pos (keywordEach [] X.env)).any (·.1.isNone)) = false := by rfl) :
    PE X (.Call (.Name x p) (e :: es) [] pos) (tCall sp [] E t) := by
  obtain ⟨f, fd, g, D, b, F⟩ := F.ex
  exact pe_call F (hr.mono hj) hg g D.kp b .nil hx ha hdb he (by
    have h : ((backTo pos (starEach (e :: es) X.env)).any (·.1)) = false := (Bool.or_eq_false_iff.mp hpl).1
    rw [he] at h
    unfold backTo at h ⊢
    simpa using h)
theorem pe_clK0 (F : Ok X.prog X.w X.K X.mg X.base CX k x st ps sp) (hr : Room j X.A) (hg : Gl X x) (hx : Passes CX X E) (hb : ∀ f fd, FnP X.K x st f fd → KBn X.K fd ps 0 ks (fun us ws => g us ws) (fun us ws => g us ws)) (hkw : PK X kws tk) (hj : k ≤ j := by decide)
    (hall : (backToKw pos (keywordEach kws X.env)).all (·.1.isSome) = true := by rfl) (hks : (backToKw pos (keywordEach kws X.env)).filterMap (·.1) = ks := by rfl)
    (hdb : (x == ("__debug__" : Str)) = false := by decide)
    (hpl : ((backTo pos (starEach [] X.env)).any (·.1) || (backToKw pos (keywordEach kws X.env)).any (·.1.isNone)) = false := by rfl) :
    PE X (.Call (.Name x p) [] kws pos) (tCallN 0 ks.length sp (fun us ws => g us ws) E tNil tk) := by
  obtain ⟨f, fd, gg, D, b, F⟩ := F.ex
  exact pe_callN0 F (hr.mono hj) hg gg D.kp (hb f fd D) hx hkw hall hks hdb hpl
theorem pe_clK (F : Ok X.prog X.w X.K X.mg X.base CX k x st ps sp) (hr : Room j X.A) (hg : Gl X x) (hx : Passes CX X E) (hb : ∀ f fd, FnP X.K x st f fd → KBn X.K fd ps n ks (fun us ws => g us ws) (fun us ws => g us ws)) (ha : PA X (e :: es) t) (hkw : PK X kws tk) (hj : k ≤ j := by decide)
    (hall : (backToKw pos (keywordEach kws X.env)).all (·.1.isSome) = true := by rfl) (hks : (backToKw pos (keywordEach kws X.env)).filterMap (·.1) = ks := by rfl)
    (hdb : (x == ("__debug__" : Str)) = false := by decide) (he : starEach (e :: es) X.env = (false, eval e X.env) :: starEach es X.env := by rfl)
    (hpl : ((backTo pos (starEach (e :: es) X.env)).any (·.1) || (backToKw pos (keywordEach kws X.env)).any (·.1.isNone)) = false := by rfl) :
    PE X (.Call (.Name x p) (e :: es) kws pos) (tCallN n ks.length sp (fun us ws => g us ws) E t tk) := by
  obtain ⟨f, fd, gg, D, b, F⟩ := F.ex
  exact pe_callN F (hr.mono hj) hg gg D.kp (hb f fd D) hx ha hkw hall hks hdb he hpl
end
section
variable {X : Cx} {x : Str} {pos : Pos}
theorem pe_gint {i : Int} (hg : Gl X x) (h : ∃ t, X.mg x = some (.int i t)) (hd : (x == ("__debug__" : Str)) = false := by decide) : PE X (.Name x pos) (tC (.int i)) := by
  obtain ⟨t, h⟩ := h
  exact pe_glob hg h ⟨_, rfl⟩ hd
theorem pe_gstr {z : Str} (hg : Gl X x) (h : ∃ t, X.mg x = some (.str z t)) (hd : (x == ("__debug__" : Str)) = false := by decide) : PE X (.Name x pos) (tC (.str z)) := by
  obtain ⟨t, h⟩ := h
  exact pe_glob hg h ⟨_, rfl⟩ hd
theorem pe_sindex {o e : Expr} {to te : TE} {apos : Pos} (ho : PE X o to) (he : PE X e te) (hs : starEach [e] X.env = [(false, eval e X.env)] := by rfl) (hbase : attributeBase o "index" X.env (eval o X.env) = eval o X.env := by rfl) (hline : (apos.endLine == pos.line) = true := by rfl) :
    PE X (.Call (.Attribute o "index" apos) [e] [] pos) (tM1 (fun x xs H Q => ∃ a b i rest, x = .str a ∧ xs = [.str b] ∧ Builtin.Str.occurrences a b 0 a.length 1 = i :: rest ∧ Q (.int (i : Nat)) H) to te) :=
  pe_m1 F.slot_str_index F.type_str_index mt_sindex ho he hs hbase hline
end

/-! ### texts by their codes -/
def S (l : List Nat) : Str := ⟨l.toArray⟩
theorem S_len (l : List Nat) : (S l).length = l.length := by unfold S Str.length; simp
theorem S_codes (l : List Nat) : (S l).cps.toList = l := by unfold S; simp
theorem S_app (a b : List Nat) : S a ++ S b = S (a ++ b) := by
  show (⟨_⟩ : Str) = ⟨_⟩
  simp [S]
theorem S_inj {a b : List Nat} (h : S a = S b) : a = b := by
  have e := congrArg (fun z : Str => z.cps.toList) h
  simpa [S] using e
theorem S_iff {a b : List Nat} : (V.str (S a) = V.str (S b)) ↔ a = b := ⟨fun h => S_inj (V.str.inj h), fun h => by rw [h]⟩
theorem S_of (z : Str) : z = S z.cps.toList := by cases z; simp [S]
theorem signs_S (l : List Nat) : signsV (S l) = l.map fun c => V.str (S [c]) := by unfold signsV; rw [S_codes]; rfl
theorem cut_S (l : List Nat) (lo hi : Option Int) : cutS (S l) lo hi = S ((l.drop (HT.sIx l.length 0 lo)).take (HT.sIx l.length l.length hi - HT.sIx l.length 0 lo)) := by
  unfold cutS
  rw [S_codes, S_len] <;> rfl
theorem sIx_le {n : Nat} {d : Nat} {i : Nat} (h : i ≤ n) : HT.sIx n d (some (i : Int)) = i := by
  rw [HT.sIx_nat]; omega
theorem cut_to {l : List Nat} {n : Nat} (h : n ≤ l.length) : cutS (S l) none (some (n : Int)) = S (l.take n) := by
  rw [cut_S, sIx_le h, HT.sIx_none]
  simp
theorem cut_from {l : List Nat} {n : Nat} (h : n ≤ l.length) : cutS (S l) (some (n : Int)) none = S (l.drop n) := by
  rw [cut_S, sIx_le h, HT.sIx_none]
  congr 1
  rw [List.take_of_length_le]
  rw [List.length_drop]
  omega
theorem fold_app (x : List Nat) : ∀ (n : Nat) (acc : Array Nat), (List.replicate n x.toArray).foldl (· ++ ·) acc = acc ++ ((List.replicate n x).flatten).toArray := by
  intro n
  induction n with
  | zero => intro acc; simp
  | succ n ih => intro acc; rw [List.replicate_succ, List.foldl_cons, ih, List.replicate_succ, List.flatten_cons]; simp [Array.append_assoc]
theorem mul_S (l : List Nat) (n : Nat) : Txt.mul (S l) (n : Int) = S ((List.replicate n l).flatten) := by
  unfold Txt.mul
  split
  · rename_i h
    have : n = 0 := by omega
    subst this
    rfl
  · split
    · rename_i h1 h2
      rw [Bool.or_eq_true] at h2
      rcases h2 with h2 | h2
      · have e : (n : Int) = 1 := by simpa using h2
        have : n = 1 := by omega
        subst this
        simp
      · have e : l.length = 0 := by rw [S_len] at h2; simpa using h2
        have : l = [] := List.eq_nil_of_length_eq_zero e
        subst this
        congr 1
        simp
    · show (⟨_⟩ : Str) = ⟨_⟩
      congr 1
      show ((List.replicate (n : Int).toNat l.toArray).foldl (· ++ ·) #[]) = _
      rw [Int.toNat_natCast, fold_app]
      simp
theorem mulok_S {l : List Nat} {n : Nat} (h : l.length * n ≤ 1000000) (hn : n ≤ 1000000) : MulOk (S l) (n : Int) := by
  refine ⟨by simp; omega, fun h1 h2 => ?_, fun h1 h2 => ?_⟩
  · rw [S_len]
    have h3 : (1 : Int) ≤ (n : Int) := by omega
    rw [Bool.or_eq_false_iff] at h2
    have h4 : l.length ≠ 0 := by
      have := h2.2
      rw [S_len] at this
      simpa using this
    have h5 : l.length ≤ 1000000 := by
      have : l.length * 1 ≤ l.length * n := Nat.mul_le_mul_left _ (by omega)
      omega
    have h6 : (2 ^ 63 - 1) / 1000000 ≤ ((2 ^ 63 - 1 : Int)) / (n : Int) := by
      have h7 : (0 : Int) < (n : Int) := by omega
      rw [Int.le_ediv_iff_mul_le h7]
      have h8 : (n : Int) ≤ 1000000 := by omega
      have h9 : ((2 ^ 63 - 1 : Int) / 1000000) * (n : Int) ≤ ((2 ^ 63 - 1 : Int) / 1000000) * 1000000 := Int.mul_le_mul_of_nonneg_left h8 (by decide)
      have h10 : ((2 ^ 63 - 1 : Int) / 1000000) * 1000000 ≤ 2 ^ 63 - 1 := by decide
      omega
    have h7 : (1000000 : Int) ≤ (2 ^ 63 - 1) / 1000000 := by decide
    omega
  · rw [S_len, Int.toNat_natCast]
    have h0 : sizeLine = 16777216 := by decide
    unfold PySem.Builtin.Str.tooLong
    simp
    omega
theorem joinL_nil : ∀ ys : List (List Nat), TL.joinL [] ys = ys.flatten
  | [] => rfl
  | [x] => by simp [TL.joinL]
  | x :: y :: r => by simp [TL.joinL, joinL_nil (y :: r)]
theorem join_S (ys : List (List Nat)) : Txt.join (S []) (ys.map S) = S ys.flatten := by
  have h : Txt.join (SX.S []) (ys.map SX.S) = SX.S (TL.joinL [] ys) := SX.join_S [] ys
  rw [joinL_nil] at h
  exact h
theorem pe_strS {X : Cx} {x : Str} {j pos} (l : List Nat) (h : x = S l) : PE X (.Constant (.str x) j pos) (tC (.str (S l))) := by
  subst h
  exact pe_str
theorem pe_gstrS {X : Cx} {x z : Str} {pos : Pos} (l : List Nat) (h : z = S l) (hg : Gl X x) (hm : ∃ t, X.mg x = some (.str z t)) (hd : (x == ("__debug__" : Str)) = false := by decide) : PE X (.Name x pos) (tC (.str (S l))) := by
  subst h
  exact pe_gstr hg hm hd
/-! ### the rules with named readings -/
def rIsT : R2 := fun x y H Q => ∃ a b, x = .ty a ∧ y = .ty b ∧ Q (.bl (decide (a = b))) H
def rNoT : R2 := fun x y H Q => ∃ a b, x = .ty a ∧ y = .ty b ∧ Q (.bl (!decide (a = b))) H
def rIN : R2 := fun x y H Q => y = .non ∧ Q (.bl (decide (x = .non))) H
def rNN : R2 := fun x y H Q => y = .non ∧ Q (.bl (!decide (x = .non))) H
def rInC : R2 := fun x y H Q => ∃ (c : Nat) (z : Str), x = .str ⟨#[c]⟩ ∧ y = .str z ∧ Q (.bl (decide (c ∈ z.cps.toList))) H
def rNinC : R2 := fun x y H Q => ∃ (c : Nat) (z : Str), x = .str ⟨#[c]⟩ ∧ y = .str z ∧ Q (.bl (!decide (c ∈ z.cps.toList))) H
def rAddS : R2 := fun x y H Q => ∃ i j, x = .str i ∧ y = .str j ∧ i.length + j.length ≤ sizeLine ∧ Q (.str (i ++ j)) H
def rLtS : R2 := fun x y H Q => ∃ i j, x = .str i ∧ y = .str j ∧ Q (.bl (decide (i.cps.toList < j.cps.toList))) H
abbrev RL := List V → Hp → VK → Prop
def rLnS : RL := fun xs H Q => ∃ z, xs = [.str z] ∧ z.length ≤ sizeLine ∧ Q (.int z.length) H
def rLnQ (K : PySem.W.Frag) : RL := fun xs H Q => ∃ p ys, xs = [.ref p] ∧ (SqL K H p ys ∨ SqT K H p ys) ∧ Q (.int ys.length) H
def rInt : RL := fun xs H Q => (∃ i, xs = [.int i] ∧ Q (.int i) H) ∨ ∃ k, xs = [.bl k] ∧ Q (.int (if k then 1 else 0)) H
def rAbs : RL := fun xs H Q => ∃ i, xs = [.int i] ∧ Q (.int (if i < 0 then -i else i)) H
def rMax2 : RL := fun xs H Q => ∃ i j, xs = [.int i, .int j] ∧ Q (.int (if j > i then j else i)) H
def rMin2 : RL := fun xs H Q => ∃ i j, xs = [.int i, .int j] ∧ Q (.int (if j < i then j else i)) H
def rListOf (K : PySem.W.Frag) : RL := fun xs H Q => ∃ p ys, xs = [.ref p] ∧ (SqL K H p ys ∨ SqT K H p ys) ∧ ∀ l, H l = none → Q (.ref l) (upd H l (.lst ys))
abbrev RM := V → List V → Hp → VK → Prop
def rJoin (K : PySem.W.Frag) : RM := fun x xs H Q => ∃ a p, ∃ ys : List Str, x = .str a ∧ xs = [.ref p] ∧ (SqL K H p (ys.map V.str) ∨ SqT K H p (ys.map V.str)) ∧ (ys.map (·.length)).sum + ys.length * a.length ≤ 16777216 ∧ Q (.str (Txt.join a ys)) H
def rSIx : RM := fun x xs H Q => ∃ a b i rest, x = .str a ∧ xs = [.str b] ∧ Builtin.Str.occurrences a b 0 a.length 1 = i :: rest ∧ Q (.int (i : Nat)) H
section
variable {X : Cx}
theorem o_isT : OpR X (compareOp .Is) rIsT := op_isTyB
theorem o_noT : OpR X (compareOp .IsNot) rNoT := op_notTyB
theorem o_isN : OpR X (compareOp .Is) rIN := op_isN
theorem o_notN : OpR X (compareOp .IsNot) rNN := op_notN
theorem o_inC : OpR X (compareOp .In) rInC := op_in_sign
theorem o_ninC : OpR X (compareOp .NotIn) rNinC := op_notIn_sign
theorem o_addS : OpR X (binaryOp .Add) rAddS := op_add_str
theorem o_ltS : OpR X (compareOp .Lt) rLtS := op_lt_str
theorem k_lnS : CallR X (.builtin "len") rLnS := call_len_str
theorem k_lnQ : CallR X (.builtin "len") (rLnQ X.K) := call_len_seq
theorem k_int : CallR X (.type "int") rInt := call_int1
theorem k_abs : CallR X (.builtin "abs") rAbs := call_abs
theorem k_max2 (hc : X.calm = true) : CallR X (.builtin "max") rMax2 := call_max2 hc
theorem k_min2 (hc : X.calm = true) : CallR X (.builtin "min") rMin2 := call_min2 hc
theorem k_listOf : CallR X (.type "list") (rListOf X.K) := call_list_of
theorem pe_jn {o e : Expr} {to te : TE} {apos pos : Pos} (ho : PE X o to) (he : PE X e te) (hs : starEach [e] X.env = [(false, eval e X.env)] := by rfl) (hbase : attributeBase o "join" X.env (eval o X.env) = eval o X.env := by rfl) (hline : (apos.endLine == pos.line) = true := by rfl) :
    PE X (.Call (.Attribute o "join" apos) [e] [] pos) (tM1 (rJoin X.K) to te) := pe_join ho he hs hbase hline
theorem pe_sx {o e : Expr} {to te : TE} {apos pos : Pos} (ho : PE X o to) (he : PE X e te) (hs : starEach [e] X.env = [(false, eval e X.env)] := by rfl) (hbase : attributeBase o "index" X.env (eval o X.env) = eval o X.env := by rfl) (hline : (apos.endLine == pos.line) = true := by rfl) :
    PE X (.Call (.Attribute o "index" apos) [e] [] pos) (tM1 rSIx to te) := pe_sindex ho he hs hbase hline
end
/-! ### readings -/
section
variable {σ : L2.St} {H : Hp} {Q : VK} {QT : Bool → Hp → Prop} {QA : List V → Hp → Prop} {D : Ends} {ta tb tc te : TE} {t u : TS} {tt tu : TT} {tA tr : TA} {g : TG} {r r' : R2} {v x y : V} {i j : Nat} {K : PySem.W.Frag}
theorem r_seq (h : t { D with nx := u D } σ H) : tSeq t u D σ H := h
theorem r_asg (h : te σ H fun x H1 => g x σ H1 D.nx) : tAsg te g D σ H := h
theorem r_name {Q : L2.St → Hp → Prop} (h : Q (σ.set i (some v)) H) : gName i v σ H Q := h
theorem r_ret (h : te σ H D.rt) : tRet te D σ H := h
theorem r_drop (h : te σ H fun _ H1 => D.nx σ H1) : tDrop te D σ H := h
theorem r_next (h : D.nx σ H) : tNext D σ H := h
theorem r_ifS (h : tt σ H fun b H1 => if b = true then t D σ H1 else u D σ H1) : tIfS tt t u D σ H := h
theorem r_op (h : ta σ H fun x H1 => tb σ H1 fun y H2 => r x y H2 Q) : tOp r ta tb σ H Q := h
theorem r_un {r : V → Hp → VK → Prop} (h : ta σ H fun x H1 => r x H1 Q) : tUn r ta σ H Q := h
theorem r_var (h : σ[i]? = some (some v)) (q : Q v H) : tVar i σ H Q := ⟨v, h, q⟩
theorem r_c (q : Q v H) : tC v σ H Q := q
theorem r_I0 {f : Int → Int → V} {a b : Int} (q : Q (f a b) H) : rI0 f (.int a) (.int b) H Q := ⟨a, b, rfl, rfl, q⟩
theorem r_I {C : Int → Int → Prop} {f : Int → Int → V} {a b : Int} (c : C a b) (q : Q (f a b) H) : rI C f (.int a) (.int b) H Q := ⟨a, b, rfl, rfl, c, q⟩
theorem r_U {f : Int → V} {a : Int} (q : Q (f a) H) : rU f (.int a) H Q := ⟨a, rfl, q⟩
theorem r_eq (s : scal x y = true) (q : Q (.bl (decide (x = y))) H) : rEq x y H Q := ⟨s, q⟩
theorem r_ne (s : scal x y = true) (q : Q (.bl (!decide (x = y))) H) : rNe x y H Q := ⟨s, q⟩
theorem r_cb {r : List V → Hp → VK → Prop} (h : tA σ H fun vs H1 => r vs H1 Q) : tCB r tA σ H Q := h
theorem r_cons (h : ta σ H fun x H1 => tr σ H1 fun xs H2 => QA (x :: xs) H2) : tCons ta tr σ H QA := h
theorem r_nil (h : QA [] H) : tNil σ H QA := h
theorem r_call {sp : Sp} {E : XK} (h : tA σ H fun vs H1 => sp (vs ++ []) H1 Q E) : tCall sp [] E tA σ H Q := h
theorem r_callN {n m : Nat} {sp : Sp} {E : XK} {gV : List V → List V → List V} {tk : TA} (h : tA σ H fun vs H1 => tk σ H1 fun zs H2 => vs.length = n ∧ zs.length = m ∧ sp (gV vs zs) H2 Q E) : tCallN n m sp gV E tA tk σ H Q := h
theorem r_test (h : ta σ H fun x H' => ∃ k, x = .bl k ∧ QT k H') : tTest ta σ H QT := h
theorem r_B (h : ta σ H fun x H' => ∃ k, x = .bl k ∧ QT k H') : tB ta σ H QT := h
theorem r_k {P : Bool → Prop} {b : Bool} (h : P b) : ∃ k, V.bl b = .bl k ∧ P k := ⟨b, rfl, h⟩
theorem r_and (h : tt σ H fun c H1 => if c = true then tu σ H1 QT else QT false H1) : tAnd tt tu σ H QT := h
theorem r_or (h : tt σ H fun c H1 => if c = true then QT true H1 else tu σ H1 QT) : tOr tt tu σ H QT := h
theorem r_not (h : tt σ H fun c H1 => QT (!c) H1) : tNot tt σ H QT := h
theorem r_andV (h : ta σ H fun x H1 => ∃ c, x = .bl c ∧ if c = true then tb σ H1 Q else Q (.bl false) H1) : tAndV ta tb σ H Q := h
theorem r_orV (h : ta σ H fun x H1 => ∃ c, x = .bl c ∧ if c = true then Q (.bl true) H1 else tb σ H1 Q) : tOrV ta tb σ H Q := h
theorem r_notV (h : ta σ H fun x H1 => ∃ c, x = .bl c ∧ Q (.bl (!c)) H1) : tNotV ta σ H Q := h
theorem r_if (h : tt σ H fun c H1 => if c = true then ta σ H1 Q else tb σ H1 Q) : tIf tt ta tb σ H Q := h
theorem r_chain (h : ta σ H fun x H1 => tb σ H1 fun y H2 => r x y H2 fun z H3 => ∃ k, z = .bl k ∧ (if k = true then tc σ H3 fun w' H4 => r' y w' H4 Q else Q (.bl false) H3)) : tChain r r' ta tb tc σ H Q := h
theorem r_tup (h : tA σ H fun xs H1 => xs.length ≤ sizeLine ∧ ∀ p, H1 p = none → Q (.ref p) (upd H1 p (.tup xs))) : tTup tA σ H Q := h
theorem r_lst (h : tA σ H fun xs H1 => xs.length ≤ sizeLine ∧ ∀ p, H1 p = none → Q (.ref p) (upd H1 p (.lst xs))) : tLst tA σ H Q := h
theorem r_par (h : tA σ H fun vs H1 => ∃ v w, vs = [v, w] ∧ D.nx ((σ.set i (some v)).set j (some w)) H1) : tPar i j tA D σ H := h
theorem r_sl {rs : V → Option Int → Option Int → Hp → VK → Prop} {tl th : TO} (h : te σ H fun x H1 => tl σ H1 fun l H2 => th σ H2 fun u H3 => rs x l u H3 Q) : tSl rs te tl th σ H Q := h
theorem r_nopart {Q : Option Int → Hp → Prop} (h : Q none H) : tNoPart σ H Q := h
theorem r_part {Q : Option Int → Hp → Prop} (h : te σ H fun x H1 => ∃ i, x = .int i ∧ Q (some i) H1) : tPart te σ H Q := h
theorem r_i {P : Int → Prop} {a : Int} (h : P a) : ∃ i, V.int a = .int i ∧ P i := ⟨a, rfl, h⟩
theorem r_int {a : Int} (h : Q (.int a) H) : rInt [.int a] H Q := .inl ⟨a, rfl, h⟩
theorem r_intb {b : Bool} (h : Q (.int (if b then 1 else 0)) H) : rInt [.bl b] H Q := .inr ⟨b, rfl, h⟩
theorem r_abs {a : Int} (h : Q (.int (if a < 0 then -a else a)) H) : rAbs [.int a] H Q := ⟨a, rfl, h⟩
theorem r_max2 {a b : Int} (h : Q (.int (if b > a then b else a)) H) : rMax2 [.int a, .int b] H Q := ⟨a, b, rfl, h⟩
theorem r_min2 {a b : Int} (h : Q (.int (if b < a then b else a)) H) : rMin2 [.int a, .int b] H Q := ⟨a, b, rfl, h⟩
theorem r_lnS {z : Str} (hz : z.length ≤ sizeLine) (h : Q (.int z.length) H) : rLnS [.str z] H Q := ⟨z, rfl, hz, h⟩
theorem r_lnT {l : List Nat} (hz : l.length ≤ 1000000) (h : Q (.int l.length) H) : rLnS [.str (S l)] H Q := ⟨_, rfl, by rw [S_len]; exact Nat.le_trans hz (by decide), by rw [S_len]; exact h⟩
theorem r_lnL {p : Addr} {ys : List V} (hs : SqL K H p ys) (h : Q (.int ys.length) H) : rLnQ K [.ref p] H Q := ⟨p, ys, rfl, .inl hs, h⟩
theorem r_lnU {p : Addr} {ys : List V} (hs : SqT K H p ys) (h : Q (.int ys.length) H) : rLnQ K [.ref p] H Q := ⟨p, ys, rfl, .inr hs, h⟩
theorem r_listL {p : Addr} {ys : List V} (hs : SqL K H p ys) (h : ∀ l, H l = none → Q (.ref l) (upd H l (.lst ys))) : rListOf K [.ref p] H Q := ⟨p, ys, rfl, .inl hs, h⟩
theorem r_listS {l : List Nat} (hz : l.length ≤ 1000000) (h : ∀ p, H p = none → Q (.ref p) (upd H p (.lst (l.map fun c => V.str (S [c]))))) : rListStr [.str (S l)] H Q := ⟨_, rfl, by rw [S_len]; exact Nat.le_trans hz (by decide), by rw [signs_S]; exact h⟩
theorem r_isT {a b : String} (q : Q (.bl (decide (a = b))) H) : rIsT (.ty a) (.ty b) H Q := ⟨a, b, rfl, rfl, q⟩
theorem r_noT {a b : String} (q : Q (.bl (!decide (a = b))) H) : rNoT (.ty a) (.ty b) H Q := ⟨a, b, rfl, rfl, q⟩
theorem r_isN (q : Q (.bl (decide (x = .non))) H) : rIN x .non H Q := ⟨rfl, q⟩
theorem r_notN (q : Q (.bl (!decide (x = .non))) H) : rNN x .non H Q := ⟨rfl, q⟩
theorem r_inC {c : Nat} {l : List Nat} (q : Q (.bl (decide (c ∈ l))) H) : rInC (.str (S [c])) (.str (S l)) H Q := ⟨c, _, rfl, rfl, by rw [S_codes]; exact q⟩
theorem r_addS {a b : List Nat} (hz : a.length + b.length ≤ 1000000) (q : Q (.str (S (a ++ b))) H) : rAddS (.str (S a)) (.str (S b)) H Q := ⟨_, _, rfl, rfl, by rw [S_len, S_len]; exact Nat.le_trans hz (by decide), by rw [S_app]; exact q⟩
theorem r_mulS {a : List Nat} {n : Nat} (hz : a.length * n ≤ 1000000) (hn : n ≤ 1000000) (q : Q (.str (S (List.replicate n a).flatten)) H) : rMulS (.str (S a)) (.int (n : Int)) H Q := ⟨_, _, rfl, rfl, mulok_S hz hn, by rw [mul_S]; exact q⟩
theorem r_join {p : Addr} {ys : List (List Nat)} (hs : SqL K H p (ys.map fun l => V.str (S l))) (hz : ys.flatten.length ≤ 1000000) (q : Q (.str (S ys.flatten)) H) : rJoin K (.str (S [])) [.ref p] H Q :=
  ⟨_, p, ys.map S, rfl, rfl, .inl (by rw [List.map_map]; exact hs), by
    rw [List.map_map, S_len]
    have e : ((fun z : Str => z.length) ∘ S) = fun l : List Nat => l.length := funext fun l => S_len l
    rw [show ((·.length) ∘ S : List Nat → Nat) = fun l : List Nat => l.length from e]
    rw [List.length_flatten] at hz
    simp only [List.length_nil, Nat.mul_zero, Nat.add_zero]
    exact Nat.le_trans hz (by decide), by rw [join_S]; exact q⟩
theorem r_isi {T t : String} {b : Bool} (hx : TyX K H x (.type t)) (hk : kitB t T = some b) (q : Q (.bl b) H) : rIsi K [x, .ty T] H Q := ⟨x, .ty T, .type t, .type T, b, rfl, .ty T, hx, kit_ty hk, q⟩
def isiS (x : V) (T : String) : Option Bool := match x with
  | .int _ => kitB "int" T
  | .str _ => kitB "str" T
  | .bl _ => kitB "bool" T
  | .non => kitB "NoneType" T
  | _ => none
theorem r_isiS {T : String} {b : Bool} (h : isiS x T = some b) (q : Q (.bl b) H) : rIsi K [x, .ty T] H Q := by
  cases x with
  | int i => exact r_isi (.base (.int i)) h q
  | str i => exact r_isi (.base (.str i)) h q
  | bl i => exact r_isi (.base (.bl i)) h q
  | non => exact r_isi (.base .non) h q
  | _ => cases h
theorem r_isiT {T : String} {a : Addr} {xs : List V} {b : Bool} (h : SqT K H a xs) (hk : kitB "tuple" T = some b) (q : Q (.bl b) H) : rIsi K [.ref a, .ty T] H Q := by
  rcases h with h | ⟨o, its, n, h1, h2, _⟩
  · rcases h with h | ⟨o, h⟩
    · exact r_isi (.base (.tup h)) hk q
    · exact r_isi (.fTuple h) hk q
  · exact r_isi (.kTuple h1 h2) hk q
theorem r_typ {T : String} (h : TyB K H x T) (q : Q (.ty T) H) : rTyp K [x] H Q := ⟨x, T, rfl, h, q⟩
theorem r_for {wi : TI} {tb : TS} (h : wi σ H fun J H1 => ∃ W : Nat → Nat → L2.St → Hp → Prop, (∃ m, W 0 m σ H1) ∧ ∀ i m σ H, W i m σ H →
  (J.stop i H ∧ D.nx σ H) ∨ (J.go i H ∧ ∃ N : L2.St → Hp → Prop, (∀ σ' H', N σ' H' → ∃ m', m' < m ∧ W (i + 1) m' σ' H') ∧ ∀ x H', J.yld i H x H' → g x σ H' fun σ2 H2 => tb { D with nx := N, ct := N, bk := D.nx } σ2 H2)) : tFor wi g tb D σ H := h
theorem r_iStr {R : It → Hp → Prop} (h : te σ H fun v H1 => ∃ x, v = .str x ∧ R (Its x) H1) : iStr te σ H R := h
theorem r_iList {R : It → Hp → Prop} (h : te σ H fun x H1 => ∃ a, x = .ref a ∧ (∃ xs, SqL K H1 a xs) ∧ R (Itl K a) H1) : iList K te σ H R := h
theorem r_iTup {R : It → Hp → Prop} (h : te σ H fun x H1 => ∃ a, x = .ref a ∧ (∃ xs, SqT K H1 a xs) ∧ R (Itt K a) H1) : iTup K te σ H R := h
theorem r_tM1 {r : V → List V → Hp → VK → Prop} (h : ta σ H fun x H1 => (∃ a, x = .str a) ∧ te σ H1 fun y H2 => r x [y] H2 Q) : tM1 r ta te σ H Q := h
theorem r_lc {wi : TI} {vs : List Nat} (h : wi σ H fun J H1 => ∀ D, H1 D = none → ∃ W : Nat → Nat → Hp → Prop, (∃ m, W 0 m (upd H1 D (.lst []))) ∧ ∀ i m H, W i m H →
  (J.stop i H ∧ Q (.ref D) H) ∨ (J.go i H ∧ ∃ Nx : Hp → Prop, (∀ H', Nx H' → ∃ m', m' < m ∧ W (i + 1) m' H') ∧ ∀ x H', J.yld i H x H' → g x (wipe σ vs) H' fun σ2 H2 => wipe σ2 vs = wipe σ vs ∧ tt σ2 H2 fun b H3 =>
    if b = true then te σ2 H3 fun y H4 => ∃ acc, H4 D = some (.lst acc) ∧ acc.length < sizeLine ∧ Nx (upd H4 D (.lst (acc ++ [y]))) else Nx H3)) : tLc wi g tt te vs σ H Q := h
theorem r_yes (h : QT true H) : tYes σ H QT := h
theorem r_ixL {p : Addr} {xs : List V} {a : Int} (hS : SqL K H p xs) (ha : atI xs a = some v) (q : Q v H) : rIxL K (.ref p) (.int a) H Q := ⟨p, xs, a, v, rfl, rfl, hS, ha, q⟩
theorem r_ixT {p : Addr} {xs : List V} {a : Int} (hS : SqT K H p xs) (ha : atI xs a = some v) (q : Q v H) : rIxT K (.ref p) (.int a) H Q := ⟨p, xs, a, v, rfl, rfl, hS, ha, q⟩
theorem r_true {A B : Prop} (h : A) : if true = true then A else B := by rw [if_pos rfl]; exact h
theorem r_false {A B : Prop} (h : B) : if false = true then A else B := by rw [if_neg Bool.false_ne_true]; exact h
theorem r_dec {c A B : Prop} [Decidable c] (h1 : c → A) (h2 : ¬ c → B) : if decide c = true then A else B := by
  by_cases h : c
  · rw [decide_eq_true h]; exact r_true (h1 h)
  · rw [decide_eq_false h]; exact r_false (h2 h)
theorem r_ndec {c A B : Prop} [Decidable c] (h1 : ¬ c → A) (h2 : c → B) : if (!decide c) = true then A else B := by
  by_cases h : c
  · rw [decide_eq_true h]; exact r_false (h2 h)
  · rw [decide_eq_false h]; exact r_true (h1 h)
theorem r_ndecI {a b : V} {A B : Prop} (h1 : ¬ a = b → A) (h2 : a = b → B) : if (!decide (a = b)) = true then A else B := r_ndec h1 h2
end
/-! ### heaps: all but one object -/
def But (a : Addr) (H H' : Hp) : Prop := ∀ b o, b ≠ a → H b = some o → H' b = some o
section
variable {a p : Addr} {H H' H1 H2 : Hp} {o : HO}
theorem But.refl : But a H H := fun _ _ _ h => h
theorem But.trans (e : But a H H1) (f : But a H1 H2) : But a H H2 := fun b o n h => f b o n (e b o n h)
theorem But.of (e : Same H H') : But a H H' := fun b o _ h => e b o h
theorem But.new (e : But a H H1) (h : H1 p = none) : But a H (upd H1 p o) := fun b u n q => by
  have q' := e b u n q
  rw [upd_ne (ne_of_none q' h)]
  exact q'
theorem But.put (e : But a H H1) : But a H (upd H1 a o) := fun b u n q => by
  rw [upd_ne n]
  exact e b u n q
theorem But.mut (e : But a H H1) (h : H p = none) : But a H (upd H1 p o) := fun b u n q => by
  rw [upd_ne (ne_of_none q h)]
  exact e b u n q
theorem same_new (h : H p = none) : Same H (upd H p o) := fun b u q => by
  rw [upd_ne (ne_of_none q h)]
  exact q
theorem Same.mut (e : Same H H1) (h : H p = none) : Same H (upd H1 p o) := fun b u q => by
  rw [upd_ne (ne_of_none q h)]
  exact e b u q
theorem But.free (e : But a H H1) {l : Addr} (n : l ≠ a) (h : H1 l = none) : H l = none := by
  cases q : H l with
  | none => rfl
  | some o => rw [e l o n q] at h; cases h
theorem But.rd (e : But a H H1) {b : Addr} {u : HO} (n : b ≠ a) (h : Rd H b u) : Rd H1 b u := by
  rcases h with h | ⟨o, h⟩
  · exact .inl (e _ _ n h)
  · exact .inr ⟨o, e _ _ n h⟩
theorem But.sql {K : PySem.W.Frag} (e : But a H H1) {b : Addr} {xs : List V} (n : b ≠ a) (h : SqL K H b xs) : SqL K H1 b xs := by
  rcases h with h | h
  · exact .inl (e.rd n h)
  · exact .inr h
theorem But.sqt {K : PySem.W.Frag} (e : But a H H1) {b : Addr} {xs : List V} (n : b ≠ a) (h : SqT K H b xs) : SqT K H1 b xs := by
  rcases h with h | h
  · exact .inl (e.rd n h)
  · exact .inr h
theorem Same.sqt {K : PySem.W.Frag} (e : Same H H1) {b : Addr} {xs : List V} (h : SqT K H b xs) : SqT K H1 b xs := by
  rcases h with (h | ⟨o, h⟩) | h
  · exact .inl (.inl (e _ _ h))
  · exact .inl (.inr ⟨o, e _ _ h⟩)
  · exact .inr h
theorem fresh_ne (h : H p = none) (e : H a = some o) : p ≠ a := (ne_of_none e h).symm
end
/-! ### the pot: draws -/
def PotAt (H : Hp) (a : Addr) (c : Int) : Prop := ∃ own sd n : Int, H a = some (.lst [.int own, .int sd, .int n]) ∧ 0 ≤ own ∧ own.natAbs < 2 ^ 1000 ∧ 0 ≤ sd ∧ sd < 2305843009213693951 ∧ 0 ≤ n ∧ n ≤ c
theorem PotAt.mono {H : Hp} {a : Addr} {c d : Int} (h : PotAt H a c) (l : c ≤ d) : PotAt H a d := by
  obtain ⟨own, sd, n, h1, h2, h3, h4, h5, h6, h7⟩ := h
  exact ⟨own, sd, n, h1, h2, h3, h4, h5, h6, by omega⟩
theorem PotAt.new {H : Hp} {a p : Addr} {c : Int} {o : HO} (h : PotAt H a c) (n : H p = none) : PotAt (upd H p o) a c := by
  obtain ⟨own, sd, k, h1, h2⟩ := h
  exact ⟨own, sd, k, by rw [upd_ne (ne_of_none h1 n)]; exact h1, h2⟩
theorem PotAt.ne {H : Hp} {a p : Addr} {c : Int} (h : PotAt H a c) (n : p ≠ a) {o : HO} : PotAt (upd H p o) a c := by
  obtain ⟨own, sd, k, h1, h2⟩ := h
  exact ⟨own, sd, k, by rw [upd_ne n.symm]; exact h1, h2⟩
theorem PotAt.fresh {H : Hp} {a p : Addr} {c : Int} (h : PotAt H a c) (n : H p = none) : p ≠ a := by
  obtain ⟨own, sd, k, h1, h2⟩ := h
  exact fresh_ne n h1
theorem PotAt.same {H H' : Hp} {a : Addr} {c : Int} (h : PotAt H a c) (e : Same H H') : PotAt H' a c := by
  obtain ⟨own, sd, k, h1, h2⟩ := h
  exact ⟨own, sd, k, e _ _ h1, h2⟩

/-! ### the fates: n 110, f 102, s 115 -/
def Wd (l : List Nat) : Prop := ∀ c ∈ l, c = 110 ∨ c = 102 ∨ c = 115
theorem Wd.nil : Wd [] := fun _ h => nomatch h
theorem Wd.app {a b : List Nat} (h : Wd a) (h' : Wd b) : Wd (a ++ b) := fun c hc => (List.mem_append.mp hc).elim (h c) (h' c)
theorem Wd.take {a : List Nat} (h : Wd a) (n : Nat) : Wd (a.take n) := fun c hc => h c (List.mem_of_mem_take hc)
theorem Wd.drop {a : List Nat} (h : Wd a) (n : Nat) : Wd (a.drop n) := fun c hc => h c (List.mem_of_mem_drop hc)
theorem Wd.get {a : List Nat} (h : Wd a) {i c : Nat} (e : a[i]? = some c) : c = 110 ∨ c = 102 ∨ c = 115 := h c (List.mem_of_getElem? e)
theorem Wd.rep {a : List Nat} (h : Wd a) (n : Nat) : Wd (List.replicate n a).flatten := fun c hc => by
  obtain ⟨x, h1, h2⟩ := List.mem_flatten.mp hc
  rw [List.eq_of_mem_replicate h1] at h2
  exact h c h2
/-! ### loops over texts -/
theorem for_S {l : List Nat} {g : TG} {tb : TS} {D : Ends} {σ : L2.St} {H : Hp} (Pv : Nat → L2.St → Hp → Prop) (h0 : Pv 0 σ H)
    (hs : ∀ i c σ H, l[i]? = some c → Pv i σ H → g (.str (S [c])) σ H fun σ2 H2 => tb { D with nx := Pv (i + 1), ct := Pv (i + 1), bk := D.nx } σ2 H2) (hd : ∀ σ H, Pv l.length σ H → D.nx σ H) :
    ∃ W : Nat → Nat → L2.St → Hp → Prop, (∃ m, W 0 m σ H) ∧ ∀ i m σ H, W i m σ H →
      ((Its (S l)).stop i H ∧ D.nx σ H) ∨ ((Its (S l)).go i H ∧ ∃ N : L2.St → Hp → Prop, (∀ σ' H', N σ' H' → ∃ m', m' < m ∧ W (i + 1) m' σ' H') ∧ ∀ x H', (Its (S l)).yld i H x H' → g x σ H' fun σ2 H2 => tb { D with nx := N, ct := N, bk := D.nx } σ2 H2) := by
  have sz : (S l).cps.size = l.length := by unfold S; simp
  refine ⟨fun i m σ H => m = l.length - i ∧ i ≤ l.length ∧ Pv i σ H, ⟨l.length, by simp, Nat.zero_le _, h0⟩, ?_⟩
  rintro i m σ H ⟨rfl, hi, p⟩
  by_cases hlt : i < l.length
  · refine .inr ⟨(by show i < (S l).cps.size; rw [sz]; exact hlt), Pv (i + 1), fun σ' H' p' => ⟨l.length - (i + 1), by omega, rfl, hlt, p'⟩, fun x H' y => ?_⟩
    obtain ⟨rfl, c, e, rfl⟩ := y
    exact hs i c σ H' (by simpa [S] using e) p
  · refine .inl ⟨(by show (S l).cps.size ≤ i; rw [sz]; omega), ?_⟩
    have : i = l.length := by omega
    subst this
    exact hd σ H p
theorem lc_S {l : List Nat} {g : TG} {tt : TT} {te : TE} {vs : List Nat} {σ : L2.St} {H1 : Hp} {D : Addr} {Qd : Hp → Prop} (Pv : Nat → Hp → Prop) (h0 : Pv 0 (upd H1 D (.lst [])))
    (hs : ∀ i c H, l[i]? = some c → Pv i H → g (.str (S [c])) (wipe σ vs) H fun σ2 H2 => wipe σ2 vs = wipe σ vs ∧ tt σ2 H2 fun b H3 =>
      if b = true then te σ2 H3 fun y H4 => ∃ acc, H4 D = some (.lst acc) ∧ acc.length < sizeLine ∧ Pv (i + 1) (upd H4 D (.lst (acc ++ [y]))) else Pv (i + 1) H3) (hd : ∀ H, Pv l.length H → Qd H) :
    ∃ W : Nat → Nat → Hp → Prop, (∃ m, W 0 m (upd H1 D (.lst []))) ∧ ∀ i m H, W i m H →
      ((Its (S l)).stop i H ∧ Qd H) ∨ ((Its (S l)).go i H ∧ ∃ Nx : Hp → Prop, (∀ H', Nx H' → ∃ m', m' < m ∧ W (i + 1) m' H') ∧ ∀ x H', (Its (S l)).yld i H x H' → g x (wipe σ vs) H' fun σ2 H2 => wipe σ2 vs = wipe σ vs ∧ tt σ2 H2 fun b H3 =>
        if b = true then te σ2 H3 fun y H4 => ∃ acc, H4 D = some (.lst acc) ∧ acc.length < sizeLine ∧ Nx (upd H4 D (.lst (acc ++ [y]))) else Nx H3) := by
  have sz : (S l).cps.size = l.length := by unfold S; simp
  refine ⟨fun i m H => m = l.length - i ∧ i ≤ l.length ∧ Pv i H, ⟨l.length, by simp, Nat.zero_le _, h0⟩, ?_⟩
  rintro i m H ⟨rfl, hi, p⟩
  by_cases hlt : i < l.length
  · refine .inr ⟨(by show i < (S l).cps.size; rw [sz]; exact hlt), Pv (i + 1), fun H' p' => ⟨l.length - (i + 1), by omega, rfl, hlt, p'⟩, fun x H' y => ?_⟩
    obtain ⟨rfl, c, e, rfl⟩ := y
    exact hs i c H' (by simpa [S] using e) p
  · refine .inl ⟨(by show (S l).cps.size ≤ i; rw [sz]; omega), ?_⟩
    have : i = l.length := by omega
    subst this
    exact hd H p
section
theorem r_yesD {c A B : Prop} [Decidable c] (h : c) (q : A) : if decide c = true then A else B := by rw [decide_eq_true h]; exact r_true q
theorem r_noD {c A B : Prop} [Decidable c] (h : ¬ c) (q : B) : if decide c = true then A else B := by rw [decide_eq_false h]; exact r_false q
theorem r_nt {A B : Prop} (h : B) : if (!true) = true then A else B := r_false h
theorem r_nf {A B : Prop} (h : A) : if (!false) = true then A else B := r_true h
theorem r_nyesD {c A B : Prop} [Decidable c] (h : c) (q : B) : if (!decide c) = true then A else B := by rw [decide_eq_true h]; exact r_false q
theorem r_nnoD {c A B : Prop} [Decidable c] (h : ¬ c) (q : A) : if (!decide c) = true then A else B := by rw [decide_eq_false h]; exact r_true q
theorem r_allT {K : PySem.W.Frag} {H : Hp} {Q : VK} {D : Addr} {n : Nat} (h : H D = some (.lst (List.replicate n (.bl true)))) (q : Q (.bl true) H) : rAll K [.ref D] H Q := by
  refine ⟨D, List.replicate n true, rfl, SqL.of ?_, ?_⟩
  · rw [h, List.map_replicate]
  · have e : (List.replicate n true).all id = true := by simp
    rw [e]
    exact q
theorem rep_len (n : Nat) : (List.replicate n (V.bl true)).length = n := List.length_replicate
theorem rep_succ (n : Nat) : List.replicate n (V.bl true) ++ [V.bl true] = List.replicate (n + 1) (V.bl true) := by
  rw [List.replicate_succ']
theorem le_line {n : Nat} (h : n ≤ 1000000) : n ≤ sizeLine := Nat.le_trans h (by decide)
theorem lt_line {n : Nat} (h : n ≤ 1000000) : n < sizeLine := Nat.lt_of_le_of_lt h (by decide)
/-- a comprehension over a text, every item True -/
theorem lcS_true {l : List Nat} {g : TG} {te : TE} {vs : List Nat} {σ : L2.St} {H1 : Hp} {D : Addr} {Qd : Hp → Prop} (hD : H1 D = none) (hl : l.length ≤ 1000000)
    (hs : ∀ (i c : Nat) (H : Hp), l[i]? = some c → Same H1 H → ∀ R : V → Hp → Prop, (∀ H', Same H H' → R (.bl true) H') → g (.str (S [c])) (wipe σ vs) H fun σ2 H2 => wipe σ2 vs = wipe σ vs ∧ te σ2 H2 R)
    (hd : ∀ H, Same H1 H → H D = some (.lst (List.replicate l.length (.bl true))) → Qd H) :
    ∃ W : Nat → Nat → Hp → Prop, (∃ m, W 0 m (upd H1 D (.lst []))) ∧ ∀ i m H, W i m H →
      ((Its (S l)).stop i H ∧ Qd H) ∨ ((Its (S l)).go i H ∧ ∃ Nx : Hp → Prop, (∀ H', Nx H' → ∃ m', m' < m ∧ W (i + 1) m' H') ∧ ∀ x H', (Its (S l)).yld i H x H' → g x (wipe σ vs) H' fun σ2 H2 => wipe σ2 vs = wipe σ vs ∧ tYes σ2 H2 fun b H3 =>
        if b = true then te σ2 H3 fun y H4 => ∃ acc, H4 D = some (.lst acc) ∧ acc.length < sizeLine ∧ Nx (upd H4 D (.lst (acc ++ [y]))) else Nx H3) := by
  refine lc_S (fun i H => Same H1 H ∧ H D = some (.lst (List.replicate i (.bl true)))) ⟨same_new hD, upd_same⟩ (fun i c H e p => ?_) fun H p => hd H p.1 p.2
  have hi : i < l.length := (List.getElem?_eq_some_iff.mp e).1
  exact hs i c H e p.1 _ fun H' e' => ⟨_, e' _ _ p.2, by rw [rep_len]; exact lt_line (by omega), Same.mut (p.1.trans e') hD, by rw [upd_same, rep_succ]⟩
end

/-! ### cuts, stores -/
section
variable {σ : L2.St} {H : Hp} {Q : VK} {D : Ends} {te : TE} {ts : TS} {K : PySem.W.Frag}
theorem r_cut (P : V → Hp → Prop) (fin : ∀ x H1, P x H1 → Q x H1) (main : ∀ R : VK, (∀ x H1, P x H1 → R x H1) → te σ H R) : te σ H Q := main Q fin
theorem s_cut (P : L2.St → Hp → Prop) (fin : ∀ σ' H', P σ' H' → D.nx σ' H') (main : ∀ N : L2.St → Hp → Prop, (∀ σ' H', P σ' H' → N σ' H') → ts { D with nx := N } σ H) : ts D σ H := main D.nx fin
theorem t_cut {tt : TT} {QT : Bool → Hp → Prop} (P : Bool → Hp → Prop) (fin : ∀ x H1, P x H1 → QT x H1) (main : ∀ R : Bool → Hp → Prop, (∀ x H1, P x H1 → R x H1) → tt σ H R) : tt σ H QT := main QT fin
theorem r_gSub {to ti : TE} {t : TSet} {v : V} {Q : L2.St → Hp → Prop} (h : to σ H fun o H1 => ti σ H1 fun i H2 => t o i v H2 fun H3 => Q σ H3) : gSub to ti t v σ H Q := h
theorem r_setL {p : Addr} {xs : List V} {k : Int} {j : Nat} {v : V} {Q : Hp → Prop} (h : H p = some (.lst xs)) (hk : ixN xs.length k = some j) (q : Q (upd H p (.lst (xs.set j v)))) : rSetL (.ref p) (.int k) v H Q := ⟨p, xs, k, j, rfl, rfl, h, hk, q⟩
theorem r_lstRg {tr : L2.St → Hp → (Int → Int → Hp → Prop) → Prop} (h : tr σ H fun a b H1 => RgOk a b ∧ ∀ q, H1 q = none → Q (.ref q) (upd H1 q (.lst (rgV a b)))) : tLstRg tr σ H Q := h
theorem r_rg1 {ta : TE} {Q : Int → Int → Hp → Prop} (h : ta σ H fun x H1 => ∃ n, x = .int n ∧ Q 0 n H1) : tRg1 ta σ H Q := h
theorem r_gTup {n : Nat} {t : TGs} {a : Addr} {xs : List V} {Q : L2.St → Hp → Prop} (hs : SqT K H a xs) (hl : xs.length = n) (h : t xs σ H Q) : gTup K n t (.ref a) σ H Q := ⟨a, xs, rfl, hs, hl, h⟩
theorem r_gCons {t : TG} {u : TGs} {v : V} {r : List V} {Q : L2.St → Hp → Prop} (h : t v σ H fun σ' H' => u r σ' H' Q) : gCons t u (v :: r) σ H Q := ⟨v, r, rfl, h⟩
theorem r_gNil {Q : L2.St → Hp → Prop} (h : Q σ H) : gNil [] σ H Q := ⟨rfl, h⟩
theorem r_slL {a : Addr} {xs : List V} {lo hi : Option Int} (hs : SqL K H a xs) (h : ∀ p, H p = none → Q (.ref p) (upd H p (.lst (cutV xs lo hi)))) : rSlL K (.ref a) lo hi H Q := ⟨a, xs, rfl, hs, h⟩
theorem r_slS {l : List Nat} {lo hi : Option Int} (hz : l.length ≤ 1000000) (h : Q (.str (cutS (S l) lo hi)) H) : rSlS (.str (S l)) lo hi H Q := ⟨_, rfl, by rw [S_len]; exact le_line hz, h⟩
theorem r_sum {a : Addr} {ns : List Int} (hs : SqL K H a (ns.map V.int)) (q : Q (.int ns.sum) H) : rSum K [.ref a] H Q := ⟨a, ns, rfl, hs, q⟩
end
/-! ### sizes -/
theorem log2_le {n k : Nat} (h : n < 2 ^ k) (hk : 0 < k) : n.log2 < k := PySem.Flt.log2_lt_of hk h
theorem cmw {i j : Int} (h1 : -(2 ^ 1100) < i) (h2 : i < 2 ^ 1100) (h3 : -(2 ^ 1100) < j) (h4 : j < 2 ^ 1100) : CMulW i j := wide_mul (a := 1100) (b := 1100) (by omega) (by omega) (by decide) (by decide) (by decide)
theorem cms {i j : Int} (h1 : -100000000000000000000 < i) (h2 : i < 100000000000000000000) (h3 : -100000000000000000000 < j) (h4 : j < 100000000000000000000) : CMulW i j := wide_mul (a := 70) (b := 70) (by omega) (by omega) (by decide) (by decide) (by decide)
theorem cdw {i j : Int} (h1 : 0 < j) (h2 : j < 100000000000000000000) : CDivW i j := wide_div (b := 70) h1 (by omega) (by decide) (by decide)
theorem cpw {i : Int} {n : Int} (h1 : 0 ≤ i) (h2 : i < 100000000000000000000) (h3 : 0 ≤ n) (h4 : n ≤ 100000) : CPowW i n := by
  refine ⟨h3, ?_⟩
  have b : Builtin.Int.intBits i ≤ i.natAbs.log2 + 1 := by
    unfold Builtin.Int.intBits
    split <;> omega
  have c : i.natAbs.log2 < 70 := log2_le (by omega) (by decide)
  have d : (Builtin.Int.intBits i : Int) ≤ 70 := by omega
  have e : (Builtin.Int.intBits i : Int) * n ≤ 70 * 100000 := Int.mul_le_mul d h4 h3 (by decide)
  have f : (70 * 100000 : Int) ≤ 2 ^ 27 := by decide
  omega
theorem mulB {x y a b c : Int} (h1 : 0 ≤ x) (h2 : x ≤ a) (h3 : 0 ≤ y) (h4 : y ≤ b) (h5 : a * b ≤ c) : 0 ≤ x * y ∧ x * y ≤ c := by
  refine ⟨Int.mul_nonneg h1 h3, Int.le_trans (Int.mul_le_mul h2 h4 h3 (Int.le_trans h1 h2)) h5⟩
theorem at_mem {xs : List V} {i : Int} (h1 : 0 ≤ i) (h2 : i < xs.length) : ∃ v, atI xs i = some v ∧ v ∈ xs := by
  obtain ⟨j, rfl⟩ := Int.eq_ofNat_of_zero_le h1
  have hj : j < xs.length := by omega
  exact ⟨xs[j], atI_nat (List.getElem?_eq_getElem hj), List.getElem_mem hj⟩
theorem div_sz {x u : Int} {k : Nat} (h1 : 0 ≤ x) (h2 : x.natAbs < 2 ^ k) (h3 : 0 < u) : 0 ≤ x / u ∧ (x / u).natAbs < 2 ^ k := by
  have a : 0 ≤ x / u := Int.ediv_nonneg h1 (Int.le_of_lt h3)
  have b : x / u ≤ x := Int.ediv_le_self _ h1
  exact ⟨a, by omega⟩

/-! ### loops and comprehensions over any walk -/
theorem for_J {J : It} {n : Nat} {g : TG} {tb : TS} {D : Ends} {σ : L2.St} {H : Hp} (Pv : Nat → L2.St → Hp → Prop) (h0 : Pv 0 σ H) (hgo : ∀ i σ H, i < n → Pv i σ H → J.go i H) (hstop : ∀ σ H, Pv n σ H → J.stop n H)
    (hs : ∀ (i : Nat) (x : V) (σ : L2.St) (H H' : Hp), i < n → Pv i σ H → J.yld i H x H' → g x σ H' fun σ2 H2 => tb { D with nx := Pv (i + 1), ct := Pv (i + 1), bk := D.nx } σ2 H2) (hd : ∀ σ H, Pv n σ H → D.nx σ H) :
    ∃ W : Nat → Nat → L2.St → Hp → Prop, (∃ m, W 0 m σ H) ∧ ∀ i m σ H, W i m σ H →
      (J.stop i H ∧ D.nx σ H) ∨ (J.go i H ∧ ∃ N : L2.St → Hp → Prop, (∀ σ' H', N σ' H' → ∃ m', m' < m ∧ W (i + 1) m' σ' H') ∧ ∀ x H', J.yld i H x H' → g x σ H' fun σ2 H2 => tb { D with nx := N, ct := N, bk := D.nx } σ2 H2) := by
  refine ⟨fun i m σ H => m = n - i ∧ i ≤ n ∧ Pv i σ H, ⟨n, by simp, Nat.zero_le _, h0⟩, ?_⟩
  rintro i m σ H ⟨rfl, hi, p⟩
  by_cases hlt : i < n
  · exact .inr ⟨hgo i σ H hlt p, Pv (i + 1), fun σ' H' p' => ⟨n - (i + 1), by omega, rfl, hlt, p'⟩, fun x H' y => hs i x σ H H' hlt p y⟩
  · have : i = n := by omega
    subst this
    exact .inl ⟨hstop σ H p, hd σ H p⟩
theorem lc_J {J : It} {n : Nat} {g : TG} {tt : TT} {te : TE} {vs : List Nat} {σ : L2.St} {H1 : Hp} {D : Addr} {Qd : Hp → Prop} (Pv : Nat → Hp → Prop) (h0 : Pv 0 (upd H1 D (.lst []))) (hgo : ∀ i H, i < n → Pv i H → J.go i H) (hstop : ∀ H, Pv n H → J.stop n H)
    (hs : ∀ (i : Nat) (x : V) (H H' : Hp), i < n → Pv i H → J.yld i H x H' → g x (wipe σ vs) H' fun σ2 H2 => wipe σ2 vs = wipe σ vs ∧ tt σ2 H2 fun b H3 =>
      if b = true then te σ2 H3 fun y H4 => ∃ acc, H4 D = some (.lst acc) ∧ acc.length < sizeLine ∧ Pv (i + 1) (upd H4 D (.lst (acc ++ [y]))) else Pv (i + 1) H3) (hd : ∀ H, Pv n H → Qd H) :
    ∃ W : Nat → Nat → Hp → Prop, (∃ m, W 0 m (upd H1 D (.lst []))) ∧ ∀ i m H, W i m H →
      (J.stop i H ∧ Qd H) ∨ (J.go i H ∧ ∃ Nx : Hp → Prop, (∀ H', Nx H' → ∃ m', m' < m ∧ W (i + 1) m' H') ∧ ∀ x H', J.yld i H x H' → g x (wipe σ vs) H' fun σ2 H2 => wipe σ2 vs = wipe σ vs ∧ tt σ2 H2 fun b H3 =>
        if b = true then te σ2 H3 fun y H4 => ∃ acc, H4 D = some (.lst acc) ∧ acc.length < sizeLine ∧ Nx (upd H4 D (.lst (acc ++ [y]))) else Nx H3) := by
  refine ⟨fun i m H => m = n - i ∧ i ≤ n ∧ Pv i H, ⟨n, by simp, Nat.zero_le _, h0⟩, ?_⟩
  rintro i m H ⟨rfl, hi, p⟩
  by_cases hlt : i < n
  · exact .inr ⟨hgo i H hlt p, Pv (i + 1), fun H' p' => ⟨n - (i + 1), by omega, rfl, hlt, p'⟩, fun x H' y => hs i x H H' hlt p y⟩
  · have : i = n := by omega
    subst this
    exact .inl ⟨hstop H p, hd H p⟩
/-- every turn gives an item: Iv what holds between the turns, Vp of the items -/
theorem lc_acc {J : It} {n : Nat} {g : TG} {te : TE} {vs : List Nat} {σ : L2.St} {H1 : Hp} {D : Addr} {Qd : Hp → Prop} (Iv : Nat → Hp → Prop) (Vp : Nat → V → Prop) (hn : n ≤ 1000000) (h0 : Iv 0 (upd H1 D (.lst [])))
    (stab : ∀ i H acc acc', Iv i H → H D = some (.lst acc) → Iv i (upd H D (.lst acc'))) (hgo : ∀ i H, i < n → Iv i H → J.go i H) (hstop : ∀ H, Iv n H → J.stop n H)
    (hs : ∀ (i : Nat) (x : V) (H H' : Hp) (acc : List V), i < n → Iv i H → H D = some (.lst acc) → J.yld i H x H' → ∀ R : V → Hp → Prop, (∀ v H4, H4 D = some (.lst acc) → Vp i v → Iv (i + 1) H4 → R v H4) →
      g x (wipe σ vs) H' fun σ2 H2 => wipe σ2 vs = wipe σ vs ∧ te σ2 H2 R)
    (hd : ∀ H acc, acc.length = n → (∀ i v, acc[i]? = some v → Vp i v) → H D = some (.lst acc) → Iv n H → Qd H) :
    ∃ W : Nat → Nat → Hp → Prop, (∃ m, W 0 m (upd H1 D (.lst []))) ∧ ∀ i m H, W i m H →
      (J.stop i H ∧ Qd H) ∨ (J.go i H ∧ ∃ Nx : Hp → Prop, (∀ H', Nx H' → ∃ m', m' < m ∧ W (i + 1) m' H') ∧ ∀ x H', J.yld i H x H' → g x (wipe σ vs) H' fun σ2 H2 => wipe σ2 vs = wipe σ vs ∧ tYes σ2 H2 fun b H3 =>
        if b = true then te σ2 H3 fun y H4 => ∃ acc, H4 D = some (.lst acc) ∧ acc.length < sizeLine ∧ Nx (upd H4 D (.lst (acc ++ [y]))) else Nx H3) := by
  refine lc_J (n := n) (fun i H => Iv i H ∧ ∃ acc, acc.length = i ∧ (∀ j v, acc[j]? = some v → Vp j v) ∧ H D = some (.lst acc)) ⟨h0, [], rfl, fun j v e => by simp at e, upd_same⟩ (fun i H hi p => hgo i H hi p.1) (fun H p => hstop H p.1) ?_ ?_
  · rintro i x H H' hi ⟨p, acc, hl, hv, e⟩ y
    refine hs i x H H' acc hi p e y _ fun v H4 e4 vp p4 => ⟨acc, e4, lt_line (by omega), stab _ _ _ _ p4 e4, acc ++ [v], by simp [hl], fun j u ej => ?_, upd_same⟩
    rw [List.getElem?_append] at ej
    split at ej
    · exact hv j u ej
    · have hj : j = i := by
        have := (List.getElem?_eq_some_iff.mp ej).1
        simp at this
        omega
      subst hj
      rw [hl, Nat.sub_self] at ej
      have : v = u := Option.some.inj ej
      exact this ▸ vp
  · rintro H ⟨p, acc, hl, hv, e⟩
    exact hd H acc hl hv e p
theorem all_true {acc : List V} {n : Nat} (hl : acc.length = n) (h : ∀ (i : Nat) v, acc[i]? = some v → v = .bl true) : acc = List.replicate n (.bl true) := by
  rw [← hl]
  exact List.eq_replicate_iff.mpr ⟨rfl, fun b hb => by
    obtain ⟨i, hi, e⟩ := List.getElem_of_mem hb
    exact h i b (by rw [List.getElem?_eq_getElem hi, e])⟩
section
variable {K : PySem.W.Frag} {H : Hp} {Q : VK} {σ : L2.St} {tA : TA}
theorem r_iRng1 {R : It → Hp → Prop} (h : tA σ H fun vs H1 => ∃ j, vs = [.int j] ∧ -(2 ^ 62) ≤ j ∧ j < 2 ^ 62 ∧ R (Itr 0 j.toNat) H1) : iRng1 tA σ H R := h
theorem r_iRng2 {R : It → Hp → Prop} (h : tA σ H fun vs H1 => ∃ i j : Int, vs = [.int i, .int j] ∧ (-(2 ^ 62) ≤ i ∧ i < 2 ^ 62 ∧ -(2 ^ 62) ≤ j ∧ j < 2 ^ 62) ∧ R (Itr i (j - i).toNat) H1) : iRng2 tA σ H R := h
theorem r_iZip {R : It → Hp → Prop} (h : tA σ H fun vs H1 => ∃ a b xs ys, vs = [.ref a, .ref b] ∧ ((SqL K H1 a xs ∧ SqL K H1 b ys ∧ R (Itz K a b) H1) ∨ (SqT K H1 a xs ∧ SqT K H1 b ys ∧ R (RZ.ItzT K a b) H1))) : RZ.iZipA K tA σ H R := h
theorem r_then {ta : TE} {k : V → Hp → VK → Prop} (h : ta σ H fun x H1 => k x H1 Q) : tThen ta k σ H Q := h
end
/-- told and due are the same data, nested so deep; bo: truth values, too -/
def Sc (bo : Bool) (x y : V) : Prop := (∃ i, x = .int i ∧ y = .int i) ∨ (∃ l, x = .str l ∧ y = .str l) ∨ (x = .non ∧ y = .non) ∨ (bo = true ∧ ∃ b, x = .bl b ∧ y = .bl b)
def Eqv (K : PySem.W.Frag) (H : Hp) (bo : Bool) : Nat → V → V → Prop
  | 0, x, y => Sc bo x y
  | n + 1, x, y => Sc bo x y ∨ ∃ a b xs ys, x = .ref a ∧ y = .ref b ∧ SqT K H a xs ∧ SqT K H b ys ∧ xs.length = ys.length ∧ xs.length ≤ 1000000 ∧ ∀ (i : Nat) (x y : V), xs[i]? = some x → ys[i]? = some y → Eqv K H bo n x y
section
variable {K : PySem.W.Frag} {H H' : Hp} {bo : Bool}
theorem Eqv.same (e : Same H H') : ∀ {n : Nat} {x y : V}, Eqv K H bo n x y → Eqv K H' bo n x y
  | 0, _, _, h => h
  | n + 1, x, y, h => by
    rcases h with h | ⟨a, b, xs, ys, h1, h2, h3, h4, h5, h6, h7⟩
    · exact .inl h
    · exact .inr ⟨a, b, xs, ys, h1, h2, Same.sqt e h3, Same.sqt e h4, h5, h6, fun i x y e1 e2 => Eqv.same e (h7 i x y e1 e2)⟩
theorem Eqv.sc {n : Nat} {x y : V} (h : Sc bo x y) : Eqv K H bo n x y := by
  cases n with
  | zero => exact h
  | succ n => exact .inl h
theorem Eqv.int {n : Nat} {i : Int} : Eqv K H bo n (.int i) (.int i) := Eqv.sc (.inl ⟨i, rfl, rfl⟩)
theorem Eqv.str {n : Nat} {l : Str} : Eqv K H bo n (.str l) (.str l) := Eqv.sc (.inr (.inl ⟨l, rfl, rfl⟩))
theorem Eqv.non {n : Nat} : Eqv K H bo n .non .non := Eqv.sc (.inr (.inr (.inl ⟨rfl, rfl⟩)))
theorem Eqv.bl {n : Nat} {b : Bool} : Eqv K H true n (.bl b) (.bl b) := Eqv.sc (.inr (.inr (.inr ⟨rfl, b, rfl, rfl⟩)))
theorem Eqv.tup {n : Nat} {a b : Addr} {xs ys : List V} (h3 : SqT K H a xs) (h4 : SqT K H b ys) (h5 : xs.length = ys.length) (h6 : xs.length ≤ 1000000)
    (h7 : ∀ (i : Nat) (x y : V), xs[i]? = some x → ys[i]? = some y → Eqv K H bo n x y) : Eqv K H bo (n + 1) (.ref a) (.ref b) := .inr ⟨a, b, xs, ys, rfl, rfl, h3, h4, h5, h6, h7⟩
/-- a tuple of which all items are plain, twice -/
theorem Eqv.flat {n : Nat} {a b : Addr} {xs : List V} (h3 : SqT K H a xs) (h4 : SqT K H b xs) (h6 : xs.length ≤ 1000000) (h7 : ∀ x ∈ xs, Sc bo x x) : Eqv K H bo (n + 1) (.ref a) (.ref b) :=
  Eqv.tup h3 h4 rfl h6 fun i x y e1 e2 => by
    have e : x = y := Option.some.inj (e1.symm.trans e2)
    subst e
    exact Eqv.sc (h7 x (List.mem_of_getElem? e1))
end
/-! ### s[::-1] -/
def rRev : V → Hp → VK → Prop := fun x H Q => ∃ z, x = .str z ∧ z.length ≤ sizeLine ∧ Q (.str ⟨z.cps.toList.reverse.toArray⟩) H
def tRevS (te : TE) : TE := fun σ H Q => te σ H fun x H1 => rRev x H1 Q
theorem rev_pick (z : Str) : ((Builtin.Str.strSliceIndices none none (-1) z.length).filterMap (z.cps[·]?)).toArray = z.cps.toList.reverse.toArray := by
  show ((sliceRange ((z.cps.size : Int) - 1) (-1) (-1)).filterMap (z.cps[·]?)).toArray = _
  rw [PySem.W.krv_sliceRange, PySem.W.krv_range, List.filterMap_reverse, PySem.W.krv_all]
theorem pe_revS {X : Cx} {e : Expr} {te : TE} {k : Nat} {p1 p2 p3 pos : Pos} (he : PE X e te) : PE X (.Subscript e (.Slice none none (some (.UnaryOp .USub (.Constant (.int 1) k p1) p2)) p3) pos) (tRevS te) := by
  refine ⟨fun pins s σ H Q I h => ?_⟩
  refine Subscript_ (thn (he.run pins s σ H _ I h) fun v s1 ⟨x, H1, I1, r1, q1⟩ => ?_)
  obtain ⟨z, rfl, hz, q⟩ := q1
  obtain ⟨t, rfl⟩ := r1
  have hst : PO X (some (.UnaryOp .USub (.Constant (.int 1) k p1) p2)) (tPart (tUn (rU fun i => .int (-i)) (tC (.int 1)))) := po_some (pe_un un_neg pe_int)
  refine wpAny_Slice (thn (po_none.run pins s1 σ H1 (fun o H2 => o = none ∧ H2 = H1) I1 ⟨rfl, rfl⟩) fun vl s2 ⟨l, H2, I2, pl, el, e2⟩ => ?_)
  subst el e2
  refine thn (po_none.run pins s2 σ H2 (fun o H3 => o = none ∧ H3 = H2) I2 ⟨rfl, rfl⟩) fun vu s3 ⟨u, H3, I3, pu, eu, e3⟩ => ?_
  subst eu e3
  refine thn (hst.run pins s3 σ H3 (fun o H4 => o = some (-1) ∧ H4 = H3) I3 ⟨1, rfl, -1, rfl, rfl, rfl⟩) fun vs s4 ⟨o, H4, I4, ps, eo, e4⟩ => ?_
  subst eo e4
  have I5 : Inv X pins σ H4 { s4 with heap := s4.heap.push { cls := .type "slice", data := .fields #[vl, vu, vs] } } := I4.kept (t' := s4.toks) fun b ob q => Heap.get?_push_of_some _ q
  obtain ⟨l, rfl, hl⟩ := IsPart.raw pl
  obtain ⟨u, rfl, hu⟩ := IsPart.raw pu
  obtain ⟨st, rfl, hs⟩ := IsPart.raw ps
  have hz2 : (⟨((Builtin.Str.strSliceIndices none none (-1) z.length).filterMap (z.cps[·]?)).toArray⟩ : Str).length ≤ sizeLine := by
    rw [rev_pick]
    show (z.cps.toList.reverse.toArray).size ≤ sizeLine
    rw [List.size_toArray, List.length_reverse, Array.length_toList]
    exact hz
  rw [← rev_pick] at q
  refine tail_any (ops := [.ref s4.heap.objs.size, .str z t]) (typeIs_str _ _ _) (F.slot_str_getitem.lookup) ?_ (by with_unfolding_all rfl)
  refine wpAny_getItem_str_slice (l := l) (u := u) (st := st) ⟨_, Heap.get?_push_size _ rfl, rfl, rfl⟩ (by rw [hs]; decide) ?_
  unfold sliceMade
  rw [hs]
  rw [if_neg (by simp)]
  unfold slicePicked
  rw [hs, hl, hu]
  exact ⟨hz2, .str _, _, I5.tok _, ⟨_, rfl⟩, q⟩
/-! ### the head -/
abbrev AlX : Type := He.AlD × Bool
def obsX (n : Nat) (fa : List He.Fa) (fn : List He.DefD) (ex : PySem.W.Frag → Bool) (g : Addr → Option Obj) : AlX := (He.obsDG n fa fn g, ex (He.frG g (He.asD g n)))
def hookX (n : Nat) (fa : List He.Fa) (fn : List He.DefD) (ex : PySem.W.Frag → Bool) : PySem.W.Hook where
  α := AlX
  obs := fun s => obsX n fa fn ex s.heap.get?
  val := fun _ => (He.valD fn, true)
  says := fun _ h => ∃ K : PySem.W.Frag, K.In h ∧ He.SaysD fa fn K ∧ ex K = true
  of := fun _ _ e => ⟨_, He.frG_in, congrArg (fun z : AlX => z.1) e, congrArg (fun z : AlX => z.2) e⟩
  keeps := fun _ _ _ ⟨K, hK, c⟩ k => ⟨K, PySem.W.Frag.In.keeps hK k, c⟩
theorem obsX_eq {n : Nat} {fa : List He.Fa} {fn : List He.DefD} {ex : PySem.W.Frag → Bool} {g : Addr → Option Obj} {s : Shared} (h : ∀ a, g a = s.heap.get? a) : obsX n fa fn ex g = (hookX n fa fn ex).obs s := by
  have e : g = s.heap.get? := funext h
  rw [e] <;> rfl
theorem Ok.at {P : Program} {w : World} {K : PySem.W.Frag} {mg : Str → Option Value} {base : Heap} {CX : CXT} {k : Nat} {x : Str} {st : Stmt} {ps : List Str} {sp : Sp} (o : Ok P w K mg base CX k x st ps sp) {f : Addr} {fd : FuncData} (g : mg x = some (.ref f)) (D : FnP K x st f fd) :
    FnOk P w K mg base CX k f fd ps sp := by
  obtain ⟨f', fd', g', D', b, F⟩ := o.ex
  rw [g] at g'
  cases g'
  obtain ⟨_, _, _, _, _, _, _, _, _, _, e1, l1, _⟩ := D.ex
  obtain ⟨_, _, _, _, _, _, _, _, _, _, e2, l2, _⟩ := D'.ex
  rw [l1] at l2
  have e : fd = fd' := by
    injection l2 with l2
    injection l2 with _ _ l2
    injection l2
  subst e
  exact F
end Tf

set_option linter.all false
set_option maxRecDepth 100000
set_option maxHeartbeats 2000000
/-! mathematics of words, places, numbers -/
namespace Tf
open PySem L2
/-- where a fate stands behind a place -/
def ix (p : Int) (c : Nat) : Nat := if p % 2 = 0 then (if c = 115 then 0 else if c = 110 then 1 else 2) else (if c = 102 then 0 else if c = 110 then 1 else 2)
def pst (p : Int) (c : Nat) : Int := 3 * p + (ix p c : Nat)
def pl (l : List Nat) : Int := l.foldl pst 0
def nu (p : Int) : Int × Int := if p % 2 = 0 then (p, p + 1) else (p + 1, p)
theorem pl_snoc (l : List Nat) (c : Nat) : pl (l ++ [c]) = pst (pl l) c := by unfold pl; rw [List.foldl_append]; rfl
theorem take_snoc {l : List Nat} {i c : Nat} (e : l[i]? = some c) : l.take (i + 1) = l.take i ++ [c] := by rw [List.take_add_one, e]; rfl
theorem behind_ix (p : Int) {c : Nat} (h : c = 110 ∨ c = 102 ∨ c = 115) : ∃ z : List Nat, atI [V.str (S [115, 110, 102]), V.str (S [102, 110, 115])] (p % 2) = some (.str (S z)) ∧ ∃ rest, Builtin.Str.occurrences (S z) (S [c]) 0 (S z).length 1 = ix p c :: rest := by
  rcases (show p % 2 = 0 ∨ p % 2 = 1 by omega) with e | e
  · refine ⟨[115, 110, 102], by rw [e]; rfl, ?_⟩
    rcases h with rfl | rfl | rfl
    · exact ⟨[], by unfold ix; rw [if_pos e]; decide +kernel⟩
    · exact ⟨[], by unfold ix; rw [if_pos e]; decide +kernel⟩
    · exact ⟨[], by unfold ix; rw [if_pos e]; decide +kernel⟩
  · refine ⟨[102, 110, 115], by rw [e]; rfl, ?_⟩
    have e' : ¬ p % 2 = 0 := by omega
    rcases h with rfl | rfl | rfl
    · exact ⟨[], by unfold ix; rw [if_neg e']; decide +kernel⟩
    · exact ⟨[], by unfold ix; rw [if_neg e']; decide +kernel⟩
    · exact ⟨[], by unfold ix; rw [if_neg e']; decide +kernel⟩
/-- hearing -/
def hst (q : Int × Int) (c : Nat) : Int × Int := (if c = 115 then 3 * q.1 else q.1 + 2 * q.2, if c = 102 then 3 * q.2 else q.2 + 2 * q.1)
theorem hst_nu (p : Int) {c : Nat} (h : c = 110 ∨ c = 102 ∨ c = 115) : hst (nu p) c = nu (pst p c) := by
  unfold hst nu pst ix
  rcases (show p % 2 = 0 ∨ p % 2 = 1 by omega) with e | e
  · rcases h with rfl | rfl | rfl <;> simp [e] <;> split <;> simp <;> omega
  · rcases h with rfl | rfl | rfl <;> simp [e] <;> split <;> simp <;> omega
theorem ix_le (p : Int) (c : Nat) : ix p c ≤ 2 := by unfold ix; split <;> split <;> (try split) <;> omega
theorem pl_nn (l : List Nat) : 0 ≤ pl l := by
  have key : ∀ (l : List Nat) (p : Int), 0 ≤ p → 0 ≤ l.foldl pst p := by
    intro l
    induction l with
    | nil => intro p h; exact h
    | cons c l ih => intro p h; rw [List.foldl_cons]; exact ih _ (by unfold pst; omega)
  exact key l 0 (by decide)
theorem pl_lt (l : List Nat) : pl l < 3 ^ l.length := by
  have key : ∀ (l : List Nat) (p m : Int), p < m → 0 ≤ p → l.foldl pst p < m * 3 ^ l.length := by
    intro l
    induction l with
    | nil => intro p m h _; simpa using h
    | cons c l ih =>
      intro p m h h0
      rw [List.foldl_cons, List.length_cons, Int.pow_succ]
      have h1 := ix_le p c
      have := ih (pst p c) (3 * m) (by unfold pst; omega) (by unfold pst; omega)
      have e : 3 * m * 3 ^ l.length = m * (3 ^ l.length * 3) := by rw [Int.mul_comm (3 ^ l.length) 3, ← Int.mul_assoc, Int.mul_comm m 3]
      rw [← e]
      exact this
  have := key l 0 1 (by decide) (by decide)
  rw [Int.one_mul] at this
  exact this
theorem pow3_pos (n : Nat) : (0 : Int) < 3 ^ n := Int.pow_pos (by decide)
theorem pow3_odd (n : Nat) : (3 : Int) ^ n % 2 = 1 := by
  induction n with
  | zero => rfl
  | succ n ih => rw [Int.pow_succ]; omega
/-- the left end -/
theorem pl_zero (l : List Nat) (h : Wd l) : pl l = 0 ↔ l = List.replicate l.length 115 := by
  have key : ∀ (l : List Nat), Wd l → ∀ p : Int, 0 ≤ p → (l.foldl pst p = 0 ↔ p = 0 ∧ l = List.replicate l.length 115) := by
    intro l
    induction l with
    | nil => intro _ p hp; simp
    | cons c l ih =>
      intro hw p hp
      have hc := hw c List.mem_cons_self
      have hl : Wd l := fun x hx => hw x (List.mem_cons_of_mem _ hx)
      have h0 : 0 ≤ pst p c := by unfold pst; omega
      rw [List.foldl_cons, ih hl _ h0, List.length_cons, List.replicate_succ, List.cons.injEq]
      have : pst p c = 0 ↔ p = 0 ∧ c = 115 := by
        constructor
        · intro e
          have hp0 : p = 0 := by unfold pst at e; omega
          subst hp0
          refine ⟨rfl, ?_⟩
          unfold pst ix at e
          rcases hc with rfl | rfl | rfl
          · exact absurd e (by decide)
          · exact absurd e (by decide)
          · rfl
        · rintro ⟨rfl, rfl⟩
          decide
      rw [this, and_assoc]
  have := key l h 0 (by decide)
  unfold pl
  rw [this]
  simp
/-- the right end -/
theorem pl_top (l : List Nat) (h : Wd l) : pl l = 3 ^ l.length - 1 ↔ l = List.replicate l.length 102 := by
  have key : ∀ (l : List Nat), Wd l → ∀ p m : Int, 0 ≤ p → p ≤ m → m % 2 = 0 → (l.foldl pst p = (m + 1) * 3 ^ l.length - 1 ↔ p = m ∧ l = List.replicate l.length 102) := by
    intro l
    induction l with
    | nil => intro _ p m _ _ _; simp
    | cons c l ih =>
      intro hw p m hp hm he
      have hc := hw c List.mem_cons_self
      have hl : Wd l := fun x hx => hw x (List.mem_cons_of_mem _ hx)
      have h0 : 0 ≤ pst p c := by unfold pst; omega
      have h1 := ix_le p c
      have h2 : pst p c ≤ 3 * m + 2 := by unfold pst; omega
      have e1 : (m + 1) * 3 ^ (l.length + 1) - 1 = (3 * m + 2 + 1) * 3 ^ l.length - 1 := by
        rw [Int.pow_succ, Int.mul_comm (3 ^ l.length) 3, ← Int.mul_assoc, show (m + 1) * 3 = 3 * m + 2 + 1 by omega]
      rw [List.foldl_cons, List.length_cons, e1, ih hl _ (3 * m + 2) h0 h2 (by omega), List.replicate_succ, List.cons.injEq]
      have : pst p c = 3 * m + 2 ↔ p = m ∧ c = 102 := by
        constructor
        · intro e
          have hp0 : p = m := by unfold pst at e; omega
          subst hp0
          refine ⟨rfl, ?_⟩
          unfold pst ix at e
          rw [if_pos he] at e
          rcases hc with rfl | rfl | rfl
          · simp at e
          · rfl
          · simp at e; omega
        · rintro ⟨rfl, rfl⟩
          unfold pst ix
          rw [if_pos he]
          simp
      rw [this, and_assoc]
  have := key l h 0 0 (by decide) (by decide) (by decide)
  unfold pl
  simp only [Int.zero_add, Int.one_mul] at this
  rw [this]
  simp
theorem fate_of {x : V} (h : x ∈ ([110, 102, 115] : List Nat).map fun c => V.str (S [c])) : ∃ c : Nat, x = .str (S [c]) ∧ (c = 110 ∨ c = 102 ∨ c = 115) := by
  simp only [List.map_cons, List.map_nil, List.mem_cons, List.not_mem_nil, or_false] at h
  rcases h with rfl | rfl | rfl
  · exact ⟨110, rfl, by decide⟩
  · exact ⟨102, rfl, by decide⟩
  · exact ⟨115, rfl, by decide⟩
theorem chars_of : ∀ {acc : List V}, (∀ (i : Nat) (v : V), acc[i]? = some v → ∃ c : Nat, v = .str (S [c]) ∧ (c = 110 ∨ c = 102 ∨ c = 115)) → ∃ l : List Nat, acc = l.map (fun c => V.str (S [c])) ∧ Wd l ∧ l.length = acc.length
  | [], _ => ⟨[], rfl, Wd.nil, rfl⟩
  | v :: r, h => by
    obtain ⟨c, rfl, hc⟩ := h 0 v rfl
    obtain ⟨l, e1, e2, e3⟩ := chars_of (acc := r) fun i u e => h (i + 1) u e
    exact ⟨c :: l, by rw [e1]; rfl, fun x hx => by
      rcases List.mem_cons.mp hx with rfl | hx
      · exact hc
      · exact e2 x hx, by rw [List.length_cons, List.length_cons, e3]⟩
theorem flat_one : ∀ l : List Nat, (l.map fun c => [c]).flatten = l
  | [] => rfl
  | c :: l => by rw [List.map_cons, List.flatten_cons, flat_one l]; rfl
theorem r_joinC {K : PySem.W.Frag} {H : Hp} {Q : VK} {p : Addr} {l : List Nat} (hs : SqL K H p (l.map fun c => V.str (S [c]))) (hz : l.length ≤ 1000000) (q : Q (.str (S l)) H) : rJoin K (.str (S [])) [.ref p] H Q :=
  r_join (ys := l.map fun c => [c]) (by rw [List.map_map]; exact hs) (by rw [flat_one]; exact hz) (by rw [flat_one]; exact q)
theorem cut_take (l : List Nat) (n : Nat) : cutS (S l) none (some (n : Int)) = S (l.take n) := by
  by_cases h : n ≤ l.length
  · exact cut_to h
  · rw [cut_S, HT.sIx_nat, HT.sIx_none, List.take_of_length_le (show l.length ≤ n by omega)]
    simp
    congr 1
    exact List.take_of_length_le (by omega)
theorem rep_one (n c : Nat) : (List.replicate n [c]).flatten = List.replicate n c := by
  induction n with
  | zero => rfl
  | succ n ih => rw [List.replicate_succ, List.flatten_cons, ih, List.replicate_succ]; rfl
end Tf

set_option linter.all false
set_option maxRecDepth 100000
set_option maxHeartbeats 2000000
/-! mathematics of losses: endless rows that come again -/
namespace Tf
open PySem L2
/-- the row of head and ring -/
def rw (h r : List Nat) (i : Nat) : Nat := if i < h.length then h.getD i 0 else r.getD ((i - h.length) % r.length) 0
/-- f comes again after p, from m on -/
def Per (f : Nat → Nat) (m p : Nat) : Prop := ∀ i, m ≤ i → f (i + p) = f i
def seg (f : Nat → Nat) (a n : Nat) : List Nat := (List.range n).map fun j => f (a + j)
theorem seg_len (f : Nat → Nat) (a n : Nat) : (seg f a n).length = n := by simp [seg]
theorem seg_get {f : Nat → Nat} {a n i : Nat} (h : i < n) : (seg f a n)[i]? = some (f (a + i)) := by
  unfold seg
  rw [List.getElem?_map, List.getElem?_range h] <;> rfl
theorem seg_getD {f : Nat → Nat} {a n i : Nat} (h : i < n) : (seg f a n).getD i 0 = f (a + i) := by
  rw [List.getD_eq_getElem?_getD, seg_get h] <;> rfl
theorem seg_ext {f g : Nat → Nat} {a b n : Nat} (h : ∀ i, i < n → f (a + i) = g (b + i)) : seg f a n = seg g b n := by
  unfold seg
  exact List.map_congr_left fun i hi => h i (List.mem_range.mp hi)
theorem seg_inj {f g : Nat → Nat} {a b n : Nat} (h : seg f a n = seg g b n) : ∀ i, i < n → f (a + i) = g (b + i) := fun i hi => by
  have e := congrArg (fun l : List Nat => l[i]?) h
  simp only [seg_get hi] at e
  exact Option.some.inj e
theorem seg_take {f : Nat → Nat} {a n m : Nat} (h : m ≤ n) : (seg f a n).take m = seg f a m := by
  apply List.ext_getElem?
  intro i
  by_cases hi : i < m
  · rw [List.getElem?_take_of_lt hi, seg_get (by omega), seg_get hi]
  · rw [List.getElem?_eq_none (by rw [List.length_take, seg_len]; omega), List.getElem?_eq_none (by rw [seg_len]; omega)]
theorem seg_drop {f : Nat → Nat} {a n m : Nat} : (seg f a n).drop m = seg f (a + m) (n - m) := by
  apply List.ext_getElem?
  intro i
  rw [List.getElem?_drop]
  by_cases hi : i < n - m
  · rw [seg_get (by omega), seg_get hi, Nat.add_assoc]
  · rw [List.getElem?_eq_none (by rw [seg_len]; omega), List.getElem?_eq_none (by rw [seg_len]; omega)]
theorem seg_self (l : List Nat) : l = seg (fun i => l.getD i 0) 0 l.length := by
  apply List.ext_getElem?
  intro i
  by_cases hi : i < l.length
  · rw [seg_get hi, Nat.zero_add, List.getD_eq_getElem?_getD, List.getElem?_eq_getElem hi] <;> rfl
  · rw [List.getElem?_eq_none (by omega), List.getElem?_eq_none (by rw [seg_len]; omega)]
theorem seg_app {f : Nat → Nat} {a n m : Nat} : seg f a n ++ seg f (a + n) m = seg f a (n + m) := by
  apply List.ext_getElem?
  intro i
  rw [List.getElem?_append, seg_len]
  split
  · rename_i h
    rw [seg_get h, seg_get (by omega)]
  · rename_i h
    by_cases hi : i < n + m
    · rw [seg_get (by omega), seg_get hi]
      congr 2
      omega
    · rw [List.getElem?_eq_none (by rw [seg_len]; omega), List.getElem?_eq_none (by rw [seg_len]; omega)]

theorem Per.mono {f : Nat → Nat} {m m' p : Nat} (h : Per f m p) (hm : m ≤ m') : Per f m' p := fun i hi => h i (by omega)
theorem Per.mul {f : Nat → Nat} {m p : Nat} (h : Per f m p) : ∀ k, Per f m (p * k)
  | 0 => fun i _ => rfl
  | k + 1 => fun i hi => by
    have e := Per.mul h k (i + p) (by omega)
    rw [Nat.mul_succ, show i + (p * k + p) = i + p + p * k by omega, e]
    exact h i hi
theorem rw_lt {h r : List Nat} {i : Nat} (e : i < h.length) : rw h r i = h.getD i 0 := if_pos e
theorem rw_ge {h r : List Nat} {i : Nat} (e : h.length ≤ i) : rw h r i = r.getD ((i - h.length) % r.length) 0 := if_neg (by omega)
theorem rw_per (h r : List Nat) : Per (rw h r) h.length r.length := fun i hi => by
  rw [rw_ge (by omega), rw_ge hi, show i + r.length - h.length = i - h.length + r.length by omega, Nat.add_mod_right]
/-- a row that comes again is told by its beginning -/
theorem per_rw {f : Nat → Nat} {m p : Nat} (h : Per f m p) (hp : 0 < p) : rw (seg f 0 m) (seg f m p) = f := by
  funext i
  by_cases hi : i < m
  · rw [rw_lt (by rw [seg_len]; exact hi), seg_getD hi, Nat.zero_add]
  · rw [rw_ge (by rw [seg_len]; omega), seg_len, seg_len, seg_getD (Nat.mod_lt _ hp)]
    have e := h.mul ((i - m) / p) (m + (i - m) % p) (by omega)
    rw [← e]
    congr 1
    have := Nat.mod_add_div (i - m) p
    omega
theorem rw_head (h r : List Nat) : seg (rw h r) 0 h.length = h := by
  conv => rhs; rw [seg_self h]
  exact seg_ext fun i hi => by rw [Nat.zero_add]; exact rw_lt hi
theorem rw_ring (h r : List Nat) : seg (rw h r) h.length r.length = r := by
  conv => rhs; rw [seg_self r]
  exact seg_ext fun i hi => by
    rw [rw_ge (by omega), Nat.zero_add, Nat.add_sub_cancel_left, Nat.mod_eq_of_lt hi]
/-- two rows that agree so far agree for ever -/
theorem fine_wilf {f g : Nat → Nat} {m p q : Nat} (hf : Per f m p) (hg : Per g m q) (hp : 0 < p) (hq : 0 < q) (e : ∀ i, i < m + p + q → f i = g i) : f = g := by
  funext i
  induction i using Nat.strongRecOn with
  | _ i ih =>
    by_cases hi : i < m + p + q
    · exact e i hi
    · have f1 : f i = f (i - p) := by
        have := hf (i - p) (by omega)
        rwa [show i - p + p = i by omega] at this
      have g1 : g i = g (i - q) := by
        have := hg (i - q) (by omega)
        rwa [show i - q + q = i by omega] at this
      have f2 : f (i - q) = f (i - q - p) := by
        have := hf (i - q - p) (by omega)
        rwa [show i - q - p + p = i - q by omega] at this
      have g2 : g (i - p) = g (i - p - q) := by
        have := hg (i - p - q) (by omega)
        rwa [show i - p - q + q = i - p by omega] at this
      rw [f1, ih (i - p) (by omega), g2, show i - p - q = i - q - p by omega, ← ih (i - q - p) (by omega), ← f2, ih (i - q) (by omega), ← g1]
/-- the least: the shortest head, then the shortest ring -/
structure IsMin (f : Nat → Nat) (m p : Nat) : Prop where
  pos : 0 < p
  per : Per f m p
  head : ∀ m' p', 0 < p' → Per f m' p' → m ≤ m'
  ring : ∀ p', 0 < p' → Per f m p' → p ≤ p'
theorem IsMin.uniq {f : Nat → Nat} {m p m' p' : Nat} (a : IsMin f m p) (b : IsMin f m' p') : m = m' ∧ p = p' := by
  have e : m = m' := Nat.le_antisymm (a.head _ _ b.pos b.per) (b.head _ _ a.pos a.per)
  subst e
  exact ⟨rfl, Nat.le_antisymm (a.ring _ b.pos b.per) (b.ring _ a.pos a.per)⟩
theorem per_down {f : Nat → Nat} {m m' p q : Nat} (hp : Per f m p) (h0 : 0 < p) (hq : Per f m' q) : Per f m q := fun i hi => by
  have e1 := hp.mul m' i hi
  have e2 := hp.mul m' (i + q) (by omega)
  have : m' ≤ i + p * m' := by
    have : 1 * m' ≤ p * m' := Nat.mul_le_mul_right _ h0
    omega
  have e3 := hq (i + p * m') this
  rw [← e2, ← e1, ← e3]
  congr 1
  omega
theorem IsMin.le {f : Nat → Nat} {m p m' p' : Nat} (a : IsMin f m p) (h0 : 0 < p') (h : Per f m' p') : m ≤ m' ∧ p ≤ p' := ⟨a.head _ _ h0 h, a.ring _ h0 (per_down a.per a.pos h)⟩
theorem least_ex {P : Nat → Prop} (n : Nat) (h : P n) : ∃ m, P m ∧ ∀ k, P k → m ≤ k := by
  induction n using Nat.strongRecOn with
  | _ n ih =>
    by_cases e : ∃ k, k < n ∧ P k
    · obtain ⟨k, hk, pk⟩ := e
      exact ih k hk pk
    · exact ⟨n, h, fun k pk => by
        by_cases hk : k < n
        · exact absurd ⟨k, hk, pk⟩ e
        · omega⟩
/-- of all periods the least one goes into each -/
theorem per_dvd {f : Nat → Nat} {m p q : Nat} (h0 : 0 < p) (hp : Per f m p) (hl : ∀ p', 0 < p' → Per f m p' → p ≤ p') (hq : Per f m q) : p ∣ q := by
  have h : Per f m (q % p) := fun i hi => by
    have e := hp.mul (q / p) (i + q % p) (by omega)
    rw [show i + q % p + p * (q / p) = i + q by have := Nat.mod_add_div q p; omega] at e
    rw [← e]
    exact hq i hi
  by_cases z : q % p = 0
  · exact Nat.dvd_of_mod_eq_zero z
  · have := hl _ (Nat.pos_of_ne_zero z) h
    have := Nat.mod_lt q h0
    omega
/-- the letters of a loss, as the row -/
theorem letters_seg {h r : List Nat} {n k : Nat} (hr : 0 < r.length) (hn : n ≤ h.length + k * r.length) : (h ++ (List.replicate k r).flatten).take n = seg (rw h r) 0 n := by
  have key : ∀ k, h ++ (List.replicate k r).flatten = seg (rw h r) 0 (h.length + k * r.length) := by
    intro k
    induction k with
    | zero =>
      rw [Nat.zero_mul, Nat.add_zero, rw_head]
      simp
    | succ k ih =>
      rw [List.replicate_succ', List.flatten_append, ← List.append_assoc, ih, List.flatten_cons, List.flatten_nil, List.append_nil]
      have e : seg (rw h r) (0 + (h.length + k * r.length)) r.length = r := by
        conv => rhs; rw [← rw_ring h r]
        exact seg_ext fun i hi => by
          rw [show 0 + (h.length + k * r.length) + i = h.length + i + r.length * k by rw [Nat.mul_comm]; omega]
          exact (rw_per h r).mul k _ (by omega)
      rw [Nat.succ_mul, ← Nat.add_assoc]
      conv => lhs; rhs; rw [← e]
      exact seg_app
  rw [key k]
  exact seg_take hn
theorem rep_len_mul (k : Nat) (r : List Nat) : (List.replicate k r).flatten.length = k * r.length := by
  induction k with
  | zero => simp
  | succ k ih => rw [List.replicate_succ, List.flatten_cons, List.length_append, ih, Nat.succ_mul, Nat.add_comm]
theorem per_mod {f : Nat → Nat} {p : Nat} (h : Per f 0 p) (i : Nat) : f i = f (i % p) := by
  have e := h.mul (i / p) (i % p) (Nat.zero_le _)
  rw [Nat.mod_add_div] at e
  exact e
theorem seg_nil (f : Nat → Nat) (a : Nat) : seg f a 0 = [] := rfl
theorem take_seg (r : List Nat) {d : Nat} (h : d ≤ r.length) : r.take d = seg (rw [] r) 0 d := by
  conv => lhs; rw [← rw_ring [] r]
  exact seg_take h
theorem ring_check {r : List Nat} {d : Nat} (h0 : 0 < d) (h1 : d ≤ r.length) : (List.replicate (r.length / d) (r.take d)).flatten = r ↔ (Per (rw [] r) 0 d ∧ d ∣ r.length) := by
  have hl : (r.take d).length = d := by rw [List.length_take]; omega
  have e1 : (List.replicate (r.length / d) (r.take d)).flatten = seg (rw [] (r.take d)) 0 (r.length / d * d) := by
    have := letters_seg (h := []) (r := r.take d) (n := r.length / d * d) (k := r.length / d) (by omega) (by rw [hl]; simp)
    rw [← this, List.nil_append]
    exact (List.take_of_length_le (by rw [rep_len_mul, hl]; exact Nat.le_refl _)).symm
  constructor
  · intro e
    have el := congrArg List.length e
    rw [rep_len_mul, hl] at el
    have dv : d ∣ r.length := ⟨r.length / d, by rw [Nat.mul_comm]; exact el.symm⟩
    refine ⟨?_, dv⟩
    rw [e1, el] at e
    have e2 := e.trans (rw_ring [] r).symm
    have pg : Per (rw [] (r.take d)) 0 d := by
      have := rw_per [] (r.take d)
      rw [hl] at this
      exact this
    have pg2 : Per (rw [] (r.take d)) 0 r.length := by
      have := pg.mul (r.length / d)
      rwa [Nat.mul_comm, el] at this
    have pf : Per (rw [] r) 0 r.length := rw_per [] r
    have ef : rw [] r = rw [] (r.take d) := by
      funext i
      rw [per_mod pf i, per_mod pg2 i]
      have := seg_inj e2 (i % r.length) (Nat.mod_lt _ (by omega))
      simpa using this.symm
    rw [ef]
    exact pg
  · rintro ⟨pf, k, hk⟩
    have ek : r.length / d * d = r.length := by rw [hk, Nat.mul_comm d k, Nat.mul_div_cancel _ h0]
    have ef : rw [] (r.take d) = rw [] r := by
      rw [take_seg r h1]
      have := per_rw pf h0
      rw [seg_nil] at this
      exact this
    rw [e1, ek, ef]
    exact rw_ring [] r
/-- from the head on only the ring tells -/
theorem per_tail {h r : List Nat} {q : Nat} : Per (rw h r) h.length q ↔ Per (rw [] r) 0 q := by
  have key : ∀ i, rw h r (h.length + i) = rw [] r i := fun i => by
    rw [rw_ge (by omega), rw_ge (Nat.zero_le i), Nat.add_sub_cancel_left]
    rfl
  constructor
  · intro p i _
    have := p (h.length + i) (by omega)
    rwa [Nat.add_assoc, key, key] at this
  · intro p i hi
    obtain ⟨j, rfl⟩ : ∃ j, i = h.length + j := ⟨i - h.length, by omega⟩
    rw [Nat.add_assoc, key, key]
    exact p j (Nat.zero_le _)
/-- head and ring while the head is made shorter -/
structure LInv (f : Nat → Nat) (a b : List Nat) : Prop where
  row : rw a b = f
  pos : 0 < b.length
  least : ∀ p', 0 < p' → Per f a.length p' → b.length ≤ p'
theorem short_pos {r : List Nat} {p : Nat} (hr : 0 < r.length) (m : IsMin (rw [] r) 0 p) : p ≤ r.length := m.ring _ hr (rw_per [] r)
theorem linv_start {h r : List Nat} {p : Nat} (hr : 0 < r.length) (m : IsMin (rw [] r) 0 p) : LInv (rw h r) h (r.take p) := by
  have hp := short_pos hr m
  have hl : (r.take p).length = p := by rw [List.length_take]; omega
  have ef : rw [] (r.take p) = rw [] r := by
    rw [take_seg r hp]
    have := per_rw m.per m.pos
    rw [seg_nil] at this
    exact this
  refine ⟨?_, by rw [hl]; exact m.pos, fun p' h0 hq => by rw [hl]; exact m.ring p' h0 (per_tail.mp hq)⟩
  funext i
  by_cases hi : i < h.length
  · rw [rw_lt hi, rw_lt hi]
  · have e := congrFun ef (i - h.length)
    rw [rw_ge (Nat.zero_le _), rw_ge (Nat.zero_le _)] at e
    rw [rw_ge (by omega), rw_ge (by omega)]
    exact e
theorem linv_step {f : Nat → Nat} {a b : List Nat} {c : Nat} (v : LInv f (a ++ [c]) (b ++ [c])) : LInv f a (c :: b) := by
  have e1 := rw_head (a ++ [c]) (b ++ [c])
  have e2 := rw_ring (a ++ [c]) (b ++ [c])
  have pf := rw_per (a ++ [c]) (b ++ [c])
  rw [v.row] at e1 e2 pf
  have la : (a ++ [c]).length = a.length + 1 := by simp
  have lb : (b ++ [c]).length = b.length + 1 := by simp
  rw [la] at e1 e2 pf
  rw [lb] at e2 pf
  have fa : f a.length = c := by
    have := congrArg (fun l : List Nat => l[a.length]?) e1
    simp only [seg_get (show a.length < a.length + 1 by omega), Nat.zero_add] at this
    rw [List.getElem?_append_right (Nat.le_refl _)] at this
    simpa using this
  have fb : f (a.length + 1 + b.length) = c := by
    have := congrArg (fun l : List Nat => l[b.length]?) e2
    simp only [seg_get (show b.length < b.length + 1 by omega)] at this
    rw [List.getElem?_append_right (Nat.le_refl _)] at this
    simpa using this
  have pf2 : Per f a.length (b.length + 1) := fun i hi => by
    by_cases h : i = a.length
    · subst h
      rw [show a.length + (b.length + 1) = a.length + 1 + b.length by omega, fb, fa]
    · exact pf i (by omega)
  have s1 : seg f 0 a.length = a := by
    have := congrArg (fun l : List Nat => l.take a.length) e1
    simp only [seg_take (show a.length ≤ a.length + 1 by omega)] at this
    simpa using this
  have s2 : seg f a.length (b.length + 1) = c :: b := by
    have h1 : seg f a.length 1 ++ seg f (a.length + 1) b.length = seg f a.length (1 + b.length) := seg_app
    rw [Nat.add_comm b.length 1, ← h1]
    have h2 : seg f a.length 1 = [c] := by simp [seg, fa]
    have h3 := congrArg (fun l : List Nat => l.take b.length) e2
    simp only [seg_take (show b.length ≤ b.length + 1 by omega)] at h3
    rw [h2, h3]
    simp
  have row := per_rw pf2 (by omega)
  rw [s1, s2] at row
  refine ⟨row, by simp, fun p' h0 hq => ?_⟩
  have := v.least p' h0 (hq.mono (by simp))
  simpa using this
theorem linv_end {f : Nat → Nat} {a b : List Nat} (v : LInv f a b) (h : a = [] ∨ ∃ a' b' x y, a = a' ++ [x] ∧ b = b' ++ [y] ∧ x ≠ y) : IsMin f a.length b.length := by
  have pf := rw_per a b
  rw [v.row] at pf
  refine ⟨v.pos, pf, fun m' p' h0 hq => ?_, v.least⟩
  rcases h with rfl | ⟨a', b', x, y, rfl, rfl, ne⟩
  · exact Nat.zero_le _
  · refine Nat.le_of_not_lt fun hlt => ne ?_
    have la : (a' ++ [x]).length = a'.length + 1 := by simp
    have lb : (b' ++ [y]).length = b'.length + 1 := by simp
    have e1 := rw_head (a' ++ [x]) (b' ++ [y])
    have e2 := rw_ring (a' ++ [x]) (b' ++ [y])
    have dv := per_dvd (q := p') v.pos pf v.least (hq.mono (by omega))
    rw [v.row] at e1 e2
    rw [la] at e1 e2 pf hlt
    rw [lb] at e2 pf dv
    have fa : f a'.length = x := by
      have := congrArg (fun l : List Nat => l[a'.length]?) e1
      simp only [seg_get (show a'.length < a'.length + 1 by omega), Nat.zero_add] at this
      rw [List.getElem?_append_right (Nat.le_refl _)] at this
      simpa using this
    have fb : f (a'.length + 1 + b'.length) = y := by
      have := congrArg (fun l : List Nat => l[b'.length]?) e2
      simp only [seg_get (show b'.length < b'.length + 1 by omega)] at this
      rw [List.getElem?_append_right (Nat.le_refl _)] at this
      simpa using this
    obtain ⟨k, rfl⟩ := dv
    obtain ⟨j, rfl⟩ : ∃ j, k = j + 1 := ⟨k - 1, by
      have : k ≠ 0 := fun z => by subst z; simp at h0
      omega⟩
    have e3 := hq a'.length (by omega)
    have e4 := pf.mul j (a'.length + 1 + b'.length) (by omega)
    rw [← fa, ← fb, ← e4, ← e3]
    congr 1
    rw [Nat.mul_succ]
    omega
/-- a, b is the least form of h, r -/
structure Least (h r a b : List Nat) : Prop where
  row : rw a b = rw h r
  min : IsMin (rw h r) a.length b.length
theorem Least.of {h r a b : List Nat} (v : LInv (rw h r) a b) (e : a = [] ∨ ∃ a' b' x y, a = a' ++ [x] ∧ b = b' ++ [y] ∧ x ≠ y) : Least h r a b := ⟨v.row, linv_end v e⟩
theorem Least.uniq {h r h' r' a b a' b' : List Nat} (e : rw h r = rw h' r') (x : Least h r a b) (y : Least h' r' a' b') : a = a' ∧ b = b' := by
  have y2 := y.min
  rw [← e] at y2
  obtain ⟨e1, e2⟩ := x.min.uniq y2
  have r1 := rw_head a b
  have r2 := rw_head a' b'
  have r3 := rw_ring a b
  have r4 := rw_ring a' b'
  rw [x.row] at r1 r3
  rw [y.row, ← e] at r2 r4
  exact ⟨by rw [← r1, ← r2, e1], by rw [← r3, ← r4, e1, e2]⟩
theorem Least.bound {h r a b : List Nat} (hr : 0 < r.length) (x : Least h r a b) : a.length ≤ h.length ∧ b.length ≤ r.length ∧ 0 < b.length :=
  let ⟨h1, h2⟩ := x.min.le hr (rw_per h r)
  ⟨h1, h2, x.min.pos⟩
/-- the law's own test: the first so many letters of a candidate -/
theorem cand_check {h r : List Nat} {m p n : Nat} (hr : 0 < r.length) (hp : 0 < p) (hm : m ≤ h.length) (hp2 : p ≤ r.length) (hn : h.length + r.length + p ≤ n) :
    seg (rw (seg (rw h r) 0 m) (seg (rw h r) m p)) 0 n = seg (rw h r) 0 n ↔ Per (rw h r) m p := by
  constructor
  · intro e
    have pg := rw_per (seg (rw h r) 0 m) (seg (rw h r) m p)
    rw [seg_len, seg_len] at pg
    have ef := fine_wilf (rw_per h r) (pg.mono hm) hr hp fun i hi => by
      have := seg_inj e i (by omega)
      simpa using this.symm
    rw [ef]
    exact pg
  · intro pf
    rw [per_rw pf hp]
theorem ok_S {l : List Nat} (h : Wd l) : PyData.strOk (S l) = true := by
  unfold PyData.strOk S
  rw [← Array.all_toList]
  exact List.all_eq_true.mpr fun c hc => decide_eq_true (by rcases h c hc with e | e | e <;> omega)
theorem S_beq (a b : List Nat) : (S a == S b) = decide (a = b) := SX.S_beq_eq
/-- == of two tuples of two texts -/
theorem r_eqSS {K : PySem.W.Frag} {H : Hp} {Q : VK} {x y : Addr} {a b c d : List Nat} (h1 : SqT K H x [.str (S a), .str (S b)]) (h2 : SqT K H y [.str (S c), .str (S d)]) (oa : Wd a) (ob : Wd b) (oc : Wd c) (od : Wd d)
    (q : Q (.bl (decide (a = c ∧ b = d))) H) : rEqD K (.ref x) (.ref y) H Q := by
  refine ⟨_, _, .tup h1 (.cons (.str _) (.cons (.str _) .nil)), .tup h2 (.cons (.str _) (.cons (.str _) .nil)), ?_, ?_, ?_⟩
  · unfold SeqAt.shaped
    simp only [PyData.canLay0, PyData.canLayAll0, ok_S oa, ok_S ob, PyData.depth, PyData.depthAll]
    rfl
  · unfold SeqAt.shaped
    simp only [PyData.canLay0, PyData.canLayAll0, ok_S oc, ok_S od, PyData.depth, PyData.depthAll]
    rfl
  · have e : PyData.eqv (.tuple [.str (S a), .str (S b)]) (.tuple [.str (S c), .str (S d)]) = decide (a = c ∧ b = d) := by
      simp only [PyData.eqv, PyData.eqvAll, Bool.and_true, S_beq, Bool.decide_and]
    rw [e]
    exact q
theorem Least.wd {h r a b : List Nat} (hr : 0 < r.length) (wh : Wd h) (wr : Wd r) (x : Least h r a b) : Wd a ∧ Wd b := by
  have w : ∀ i, rw h r i = 110 ∨ rw h r i = 102 ∨ rw h r i = 115 := fun i => by
    by_cases hi : i < h.length
    · rw [rw_lt hi, List.getD_eq_getElem?_getD, List.getElem?_eq_getElem hi]
      exact wh _ (List.getElem_mem hi)
    · have hm : (i - h.length) % r.length < r.length := Nat.mod_lt _ hr
      rw [rw_ge (by omega), List.getD_eq_getElem?_getD, List.getElem?_eq_getElem hm]
      exact wr _ (List.getElem_mem hm)
  have ws : ∀ a n, Wd (seg (rw h r) a n) := fun a n c hc => by
    unfold seg at hc
    obtain ⟨j, _, e⟩ := List.mem_map.mp hc
    rw [← e]
    exact w _
  have e1 := rw_head a b
  have e2 := rw_ring a b
  rw [x.row] at e1 e2
  exact ⟨e1 ▸ ws 0 a.length, e2 ▸ ws a.length b.length⟩
theorem atI_neg (l : List Nat) (c : Nat) : atI (l ++ [c]) (-1) = some c := atI_last _ _
theorem cut_last (l : List Nat) (c : Nat) : cutS (S (l ++ [c])) none (some (-1)) = S l := by
  rw [cut_S, HT.sIx_none]
  have e : HT.sIx (l ++ [c]).length (l ++ [c]).length (some (-1)) = l.length := by
    show (if (-1 : Int) < 0 then ((-1 : Int) + ((l ++ [c]).length : Int)).toNat else min (-1 : Int).toNat (l ++ [c]).length) = l.length
    rw [if_pos (by decide), List.length_append]
    simp
    omega
  rw [e]
  simp
theorem snoc_of {l : List Nat} (h : 0 < l.length) : ∃ a c, l = a ++ [c] := ⟨l.dropLast, l.getLast (by intro z; subst z; simp at h), (List.dropLast_concat_getLast _).symm⟩
theorem r_ixS {H : Hp} {Q : VK} {l : List Nat} {i : Int} {c : Nat} (hl : l.length ≤ 1000000) (h : atI l i = some c) (q : Q (.str (S [c])) H) : rIxS (.str (S l)) (.int i) H Q := ⟨_, i, c, rfl, rfl, by rw [S_len]; exact le_line hl, by rw [S_codes]; exact h, q⟩
/-! ### the same row told otherwise -/
theorem rw_longer {h r : List Nat} (r0 : 0 < r.length) : rw (h ++ r) r = rw h r := by
  have pf := rw_per h r
  have := per_rw (pf.mono (show h.length ≤ h.length + r.length by omega)) r0
  have e1 : seg (rw h r) 0 (h.length + r.length) = h ++ r := by
    rw [← seg_app, rw_head, Nat.zero_add, rw_ring]
  have e2 : seg (rw h r) (h.length + r.length) r.length = r := by
    conv => rhs; rw [← rw_ring h r]
    exact seg_ext fun i _ => by
      have := pf (h.length + i) (by omega)
      rw [← this]
      congr 1
      omega
  rw [e1, e2] at this
  exact this
theorem seg_rep {f : Nat → Nat} {m p : Nat} (pf : Per f m p) : ∀ k, seg f m (k * p) = (List.replicate k (seg f m p)).flatten
  | 0 => by simp [seg]
  | k + 1 => by
    rw [List.replicate_succ', List.flatten_append, ← seg_rep pf k, List.flatten_cons, List.flatten_nil, List.append_nil, Nat.succ_mul, ← seg_app]
    congr 1
    exact seg_ext fun i _ => by
      have := pf.mul k (m + i) (by omega)
      rw [← this]
      congr 1
      rw [Nat.mul_comm p k]
      omega
theorem rw_often {h r : List Nat} {k : Nat} (r0 : 0 < r.length) (hk : 0 < k) : rw h (List.replicate k r).flatten = rw h r := by
  have pf := rw_per h r
  have := per_rw (pf.mul k) (Nat.mul_pos r0 hk)
  rw [rw_head, Nat.mul_comm, seg_rep pf, rw_ring] at this
  exact this
theorem rw_turn {h r : List Nat} {c : Nat} : rw (h ++ [c]) (r ++ [c]) = rw h (c :: r) := by
  have pf := rw_per h (c :: r)
  have e0 := rw_ring h (c :: r)
  rw [List.length_cons] at pf e0
  have fa : rw h (c :: r) h.length = c := by
    rw [rw_ge (Nat.le_refl _), Nat.sub_self, Nat.zero_mod]
    rfl
  have := per_rw (pf.mono (show h.length ≤ h.length + 1 by omega)) (show 0 < r.length + 1 by omega)
  have s1 : seg (rw h (c :: r)) h.length 1 = [c] := by simp [seg, fa]
  have e1 : seg (rw h (c :: r)) 0 (h.length + 1) = h ++ [c] := by
    rw [← seg_app, rw_head, Nat.zero_add, s1]
  have e2 : seg (rw h (c :: r)) (h.length + 1) (r.length + 1) = r ++ [c] := by
    rw [← seg_app]
    congr 1
    · have h1 : seg (rw h (c :: r)) h.length 1 ++ seg (rw h (c :: r)) (h.length + 1) r.length = seg (rw h (c :: r)) h.length (1 + r.length) := seg_app
      rw [Nat.add_comm 1 r.length, e0, s1] at h1
      simpa using h1
    · have := pf h.length (Nat.le_refl _)
      rw [fa] at this
      simp [seg]
      rw [show h.length + 1 + r.length = h.length + (r.length + 1) by omega]
      exact this
  rw [e1, e2] at this
  exact this
theorem cut_mid {l : List Nat} {a b : Nat} (h : a ≤ b) (h2 : b ≤ l.length) : cutS (S l) (some (a : Int)) (some (b : Int)) = S ((l.drop a).take (b - a)) := by
  rw [cut_S, sIx_le h2, sIx_le (show a ≤ l.length by omega)]
/-- rows agree if so many letters do -/
theorem rows_check {h r h' r' : List Nat} {n : Nat} (r0 : 0 < r.length) (r0' : 0 < r'.length) (hn : h.length + r.length + r'.length ≤ n) (hn2 : h'.length + r.length + r'.length ≤ n) :
    seg (rw h r) 0 n = seg (rw h' r') 0 n ↔ rw h r = rw h' r' := by
  constructor
  · intro e
    refine fine_wilf ((rw_per h r).mono (Nat.le_max_left h.length h'.length)) ((rw_per h' r').mono (Nat.le_max_right _ _)) r0 r0' fun i hi => ?_
    have := seg_inj e i (by omega)
    simpa using this
  · intro e
    rw [e]
theorem cut_dl (l : List Nat) : cutS (S l) none (some (-1)) = S l.dropLast := by
  by_cases h : 0 < l.length
  · obtain ⟨a, c, rfl⟩ := snoc_of h
    rw [cut_last]
    simp
  · have : l = [] := List.eq_nil_of_length_eq_zero (by omega)
    subst this
    rw [cut_S]
    rfl
theorem r_revS {te : TE} {σ : L2.St} {H : Hp} {Q : VK} (h : te σ H fun x H1 => rRev x H1 Q) : tRevS te σ H Q := h
theorem r_revT {l : List Nat} {H : Hp} {Q : VK} (hl : l.length ≤ 1000000) (q : Q (.str (S l.reverse)) H) : rRev (.str (S l)) H Q := ⟨_, rfl, by rw [S_len]; exact le_line hl, by rw [S_codes]; exact q⟩
theorem r_catL {H : Hp} {Q : VK} {l b : Addr} {xs zs : List V} (h1 : H l = some (.lst xs)) (h2 : H b = some (.lst zs)) (hz : xs.length + zs.length ≤ 1000000) (q : ∀ p, H p = none → Q (.ref p) (upd H p (.lst (xs ++ zs)))) : rCat (.ref l) (.ref b) H Q := ⟨l, b, xs, zs, rfl, rfl, h1, h2, le_line hz, q⟩
theorem r_notB {a b : Bool} {H : Hp} {Q : VK} (q : Q (.bl (!decide (a = b))) H) : rNotB (.bl a) (.bl b) H Q := ⟨a, b, rfl, rfl, q⟩
theorem r_isB {a b : Bool} {H : Hp} {Q : VK} (q : Q (.bl (decide (a = b))) H) : rIsB (.bl a) (.bl b) H Q := ⟨a, b, rfl, rfl, q⟩
theorem Wd.dl {a : List Nat} (h : Wd a) : Wd a.dropLast := fun c hc => h c (List.dropLast_subset _ hc)
theorem Wd.rev {a : List Nat} (h : Wd a) : Wd a.reverse := fun c hc => h c (List.mem_reverse.mp hc)
section
variable {K : PySem.W.Frag}
/-- [f(x) for x in t], f of a bool -/
theorem lcT_bl {xs : List V} {t : Addr} {g : TG} {te : TE} {vs : List Nat} {σ : L2.St} {H1 : Hp} {D : Addr} {Qd : Hp → Prop} (bs : List Bool) (hb : bs.length = xs.length) (hD : H1 D = none) (hT : SqT K H1 t xs) (hl : xs.length ≤ 1000000)
    (hs : ∀ (i : Nat) (x : V) (b : Bool) (H : Hp), xs[i]? = some x → bs[i]? = some b → Same H1 H → ∀ R : V → Hp → Prop, (∀ H', Same H H' → R (.bl b) H') → g x (wipe σ vs) H fun σ2 H2 => wipe σ2 vs = wipe σ vs ∧ te σ2 H2 R)
    (hd : ∀ H, Same H1 H → H D = some (.lst (bs.map V.bl)) → Qd H) :
    ∃ W : Nat → Nat → Hp → Prop, (∃ m, W 0 m (upd H1 D (.lst []))) ∧ ∀ i m H, W i m H →
      ((Itt K t).stop i H ∧ Qd H) ∨ ((Itt K t).go i H ∧ ∃ Nx : Hp → Prop, (∀ H', Nx H' → ∃ m', m' < m ∧ W (i + 1) m' H') ∧ ∀ x H', (Itt K t).yld i H x H' → g x (wipe σ vs) H' fun σ2 H2 => wipe σ2 vs = wipe σ vs ∧ tYes σ2 H2 fun b H3 =>
        if b = true then te σ2 H3 fun y H4 => ∃ acc, H4 D = some (.lst acc) ∧ acc.length < sizeLine ∧ Nx (upd H4 D (.lst (acc ++ [y]))) else Nx H3) := by
  refine lc_acc (n := xs.length) (fun i H' => Same H1 H') (fun i v => ∃ b, bs[i]? = some b ∧ v = .bl b) hl (same_new hD) (fun i H' acc acc' e _ => Same.mut e hD) (fun i H' hi e => ?_) (fun H' e => ?_) ?_ ?_
  · exact ⟨xs, xs[i], Same.sqt e hT, List.getElem?_eq_getElem hi⟩
  · exact ⟨xs, Same.sqt e hT, Nat.le_refl _⟩
  · rintro i x H H' acc hi e hacc ⟨rfl, f⟩ R hR
    have eb : bs[i]? = some bs[i] := List.getElem?_eq_getElem (by omega)
    exact hs i x _ _ (f _ (Same.sqt e hT)) eb e R fun H4 e4 => hR _ _ (e4 _ _ hacc) ⟨_, eb, rfl⟩ (e.trans e4)
  · intro H acc hl2 hv hacc e
    have : acc = bs.map V.bl := by
      apply List.ext_getElem?
      intro i
      by_cases hi : i < xs.length
      · obtain ⟨b, eb, ev⟩ := hv i acc[i] (List.getElem?_eq_getElem (by omega))
        rw [List.getElem?_eq_getElem (by omega), ev, List.getElem?_map, eb]
        rfl
      · rw [List.getElem?_eq_none (by omega), List.getElem?_eq_none (by simp; omega)]
    rw [this] at hacc
    exact hd _ e hacc
/-- [.. for x in t]: each one true -/
theorem lcT_true {xs : List V} {t : Addr} {g : TG} {te : TE} {vs : List Nat} {σ : L2.St} {H1 : Hp} {D : Addr} {Qd : Hp → Prop} (hD : H1 D = none) (hT : SqT K H1 t xs) (hl : xs.length ≤ 1000000)
    (hs : ∀ (i : Nat) (x : V) (H : Hp), xs[i]? = some x → Same H1 H → ∀ R : V → Hp → Prop, (∀ H', Same H H' → R (.bl true) H') → g x (wipe σ vs) H fun σ2 H2 => wipe σ2 vs = wipe σ vs ∧ te σ2 H2 R)
    (hd : ∀ H, Same H1 H → H D = some (.lst (List.replicate xs.length (.bl true))) → Qd H) :
    ∃ W : Nat → Nat → Hp → Prop, (∃ m, W 0 m (upd H1 D (.lst []))) ∧ ∀ i m H, W i m H →
      ((Itt K t).stop i H ∧ Qd H) ∨ ((Itt K t).go i H ∧ ∃ Nx : Hp → Prop, (∀ H', Nx H' → ∃ m', m' < m ∧ W (i + 1) m' H') ∧ ∀ x H', (Itt K t).yld i H x H' → g x (wipe σ vs) H' fun σ2 H2 => wipe σ2 vs = wipe σ vs ∧ tYes σ2 H2 fun b H3 =>
        if b = true then te σ2 H3 fun y H4 => ∃ acc, H4 D = some (.lst acc) ∧ acc.length < sizeLine ∧ Nx (upd H4 D (.lst (acc ++ [y]))) else Nx H3) := by
  refine lc_acc (n := xs.length) (fun i H' => Same H1 H') (fun _ v => v = .bl true) hl (same_new hD) (fun i H' acc acc' e _ => Same.mut e hD) (fun i H' hi e => ?_) (fun H' e => ?_) ?_ ?_
  · exact ⟨xs, xs[i], Same.sqt e hT, List.getElem?_eq_getElem hi⟩
  · exact ⟨xs, Same.sqt e hT, Nat.le_refl _⟩
  · rintro i x H H' acc hi e hacc ⟨rfl, f⟩ R hR
    exact hs i x _ (f _ (Same.sqt e hT)) e R fun H4 e4 => hR _ _ (e4 _ _ hacc) rfl (e.trans e4)
  · intro H acc hl2 hv hacc e
    rw [all_true hl2 hv] at hacc
    exact hd _ e hacc
end
end Tf

set_option Elab.async false
set_option linter.all false
set_option maxRecDepth 100000
set_option maxHeartbeats 2000000
/-! exceptions that are caught and held, lambdas that are handed on -/
namespace Tf
open PySem PySem.Spec PyProof.Rows L2 LamX

/-! ### a caught exception, held as a value -/
/-- at a: an exception of the class cls, its dict at d -/
def ExcV (cls : Value) (d : Option Addr) (a : Addr) : HO := .ext fun h => ∃ (oe : Obj) (vs : Array Value), h.get? a = some oe ∧ Zc cls d oe ∧ oe.data = .fields vs
theorem excV_ok {P : Program} {w : World} {H : Hp} {h : Heap} {a : Addr} {cls : Value} {d : Option Addr} {oe : Obj} {vs : Array Value} (e : h.get? a = some oe) (z : Zc cls d oe) (f : oe.data = .fields vs) : ObjOk P w H h a (ExcV cls d a) :=
  ⟨⟨oe, vs, e, z, f⟩, ⟨oe, e⟩, fun _ _ ⟨o, v, q, r⟩ k => ⟨o, v, k o q, r⟩⟩
theorem excV_at {P : Program} {w : World} {H : Hp} {h : Heap} {a : Addr} {cls : Value} {d : Option Addr} (hok : HOk P w H h) (e : H a = some (ExcV cls d a)) : ∃ (oe : Obj) (vs : Array Value), h.get? a = some oe ∧ Zc cls d oe ∧ oe.data = .fields vs := by
  have x : ObjOk P w H h a (.ext fun h => ∃ (oe : Obj) (vs : Array Value), h.get? a = some oe ∧ Zc cls d oe ∧ oe.data = .fields vs) := hok a _ e
  exact x.1
section
variable {X : Cx} {pins : List (Addr × Obj)} {σ : L2.St} {H : Hp} {s : Shared}
/-- an exception of ours, new since the entry, is tracked from now on -/
theorem track {a : Addr} {oe : Obj} {vs : Array Value} {cls : Value} {d : Option Addr} (I : Inv X pins σ H s) (ha : s.heap.get? a = some oe) (hz : Zc cls d oe) (hd : oe.data = .fields vs) (na : H a = none) (n0 : X.s_0.heap.get? a = none)
    (nL : a ≠ X.env.locals) (np : ∀ p ∈ X.pn ++ pins, p.1 ≠ a) : Inv X pins σ (upd H a (ExcV cls d a)) s := by
  have n0' : ∀ b o, X.s_0.heap.get? b = some o → b ≠ a := fun b o e z => by
    rw [z, n0] at e
    cases e
  refine ⟨I.ok, I.os, I.bare, ⟨I.base.keep, I.base.slot, fun b o e n hx => by rw [upd_ne (n0' b o e)]; exact I.base.free b o e n hx, I.base.there, fun b xs e => ?_, fun b o u e => ?_, fun b ps e => ?_⟩, I.loc, I.cell, by rw [upd_ne (Ne.symm nL)]; exact I.free, fun x c e => ?_, fun p hp => ?_, fun b u e => ?_, I.len⟩
  · have q := I.base.tups b xs e
    rw [upd_ne (ne_of_none q na)]
    exact q
  · have q := I.base.frzs b o u e
    rw [upd_ne (ne_of_none q na)]
    exact q
  · obtain ⟨m, q⟩ := I.base.tbls b ps e
    exact ⟨m, by rw [upd_ne (ne_of_none q na)]; exact q⟩
  · obtain ⟨v, o, q1, q2⟩ := I.cell x c e
    rw [upd_ne (fun z => by
      rw [z, ha] at q1
      cases q1
      rw [hd] at q2
      cases q2)]
    exact I.freeC x c e
  · obtain ⟨e, n, r⟩ := I.pin p hp
    exact ⟨e, by rw [upd_ne (np p hp)]; exact n, r⟩
  · by_cases hb : b = a
    · subst hb
      rw [upd_same] at e
      cases e
      exact excV_ok ha hz hd
    · rw [upd_ne hb] at e
      exact (I.hok b u e).stay (fun c v _ q => q) (fun c q => by rw [upd_ne (ne_of_none q na)]; exact q) fun c xs q => by rw [upd_ne (ne_of_none q na)]; exact q
end
/-- what 'except x as n' wishes: behind the suite the exception is known as a value -/
def endV (i : Nat) (a : Addr) (cls : Value) (d : Option Addr) (D : Ends) : Ends := { nx := fun σ' H' => D.nx (σ'.set i none) (upd H' a (ExcV cls d a)), rt := fun v H' => D.rt v (upd H' a (ExcV cls d a)), bk := fun σ' H' => D.bk (σ'.set i none) (upd H' a (ExcV cls d a)), ct := fun σ' H' => D.ct (σ'.set i none) (upd H' a (ExcV cls d a)) }
def wAsV (K : PySem.W.Frag) (c : Value) (i : Nat) (ts : Addr → Value → Option Addr → TS) (Wout : WX) (D : Ends) : WX := fun cls d σ H =>
  ∃ b, PySem.W.exmOne K cls c = some b ∧ (b = true → ∀ a, H a = none → ts a cls d (endV i a cls d D) (σ.set i (some (.ref a))) H) ∧ (b = false → Wout cls d σ H)
section
variable {X : Cx} {pins : List (Addr × Obj)} {σ σ' : L2.St} {H H' : Hp} {sI s : Shared} {B h : Heap} {a : Addr} {cls : Value} {d : Option Addr}
/-- an exception that landed is none of the frames, none of what was there at the entry, none of the pins -/
theorem landed_new (hs : X.stack = X.env :: X.outer) (hf : X.env.frame = some X.env.locals) (hex : X.ex = []) (J : Inv X pins σ H sI) (nb : ∀ b o, sI.heap.get? b = some o → b ∉ frs X.stack → B.get? b = some o)
    (fl : HandSPX.FlyingZ B (X.env :: X.outer) a (Zc cls d) h) : a ≠ X.env.locals ∧ a ∉ X.fs ∧ X.s_0.heap.get? a = none ∧ ∀ p ∈ X.pn ++ pins, p.1 ≠ a := by
  obtain ⟨oe, vs, he, _, hd⟩ := fl.there
  have out : a ∉ frs X.stack := by
    rw [hs]
    intro hm
    obtain ⟨_, o, e, hnf⟩ := fl.2.2.1.mem hm
    exact hnf vs (by rw [← hd]; exact congrArg Obj.data (Option.some.inj (e.symm.trans he)))
  have inF : ∀ e ∈ X.env :: X.outer, e.frame ≠ some a := fun e he z => out (by rw [hs]; exact List.mem_filterMap.mpr ⟨e, he, z⟩)
  have gone : ∀ o, sI.heap.get? a ≠ some o := fun o e => by
    have z := (nb a o e out).symm.trans fl.2.1
    cases z
  refine ⟨fun z => inF X.env List.mem_cons_self (by rw [hf, z]), fun hm => ?_, ?_, fun p hp z => gone p.2 (z ▸ (J.pin p hp).1)⟩
  · obtain ⟨e, he, z⟩ := List.mem_filterMap.mp hm
    exact inF e (List.mem_cons_of_mem _ he) z
  · cases e : X.s_0.heap.get? a with
    | none => rfl
    | some o =>
      obtain ⟨o', z⟩ := J.base.there a o e (by simp [hex])
      exact absurd z (gone o')
/-- fewer pins -/
theorem Inv.drop {p : Addr × Obj} (I : Inv X (p :: pins) σ H s) : Inv X pins σ H s := ⟨I.ok, I.os, I.bare, I.base, I.loc, I.cell, I.free, I.freeC, fun r hr => I.pin r ((List.mem_append.mp hr).elim (List.mem_append_left _) fun z => List.mem_append_right _ (List.mem_cons_of_mem _ z)), I.hok, I.len⟩
/-- behind the suite the pin is still told -/
theorem Inv.behind {p : Addr × Obj} (ok : X.Ok) (I : Inv (X.suite a (p :: (X.pn ++ pins))) [] σ H s) : Inv X (p :: pins) σ H s := ⟨ok, I.os, I.bare, I.base, I.loc, I.cell, I.free, I.freeC, fun r hr => I.pin r (List.mem_append_left _ (by
  rcases List.mem_append.mp hr with z | z
  · exact List.mem_cons_of_mem _ (List.mem_append_left _ z)
  · rcases List.mem_cons.mp z with z | z
    · rw [z]
      exact List.mem_cons_self
    · exact List.mem_cons_of_mem _ (List.mem_append_right _ z))), I.hok, I.len⟩
variable {x n : Str} {c : Value} {i : Nat} {body suite : List Stmt} {b₀ : Stmt} {np pos pos' : Pos} {tb : WX → TS} {ts : Addr → Value → Option Addr → TS} {Wout : WX}
/-- the name of the clause goes, the exception is known as a value -/
theorem behind_as {oe : Obj} {vs : Array Value} {A : Around} {E : Value → Shared → Prop} {Q : Unit → Shared → Prop} (ok : X.Ok) (hN : X.N.Nodup) (hi : X.N[i]? = some n) (hln : X.env.kindOf n = some .local) (hz : Zc cls d oe) (hd : oe.data = .fields vs) (n0 : X.s_0.heap.get? a = none)
    (nL : a ≠ X.env.locals) (np : ∀ p ∈ X.pn ++ pins, p.1 ≠ a) (I : Inv (X.suite a ((a, oe) :: (X.pn ++ pins))) [] σ H s) (q : ∀ s', Inv X pins (σ.set i none) (upd H a (ExcV cls d a)) s' → Q () s') :
    wpAny (model X.prog X.w) A (do bindName X.env n .none; unbindBehindTheSuite X.env n pos') Q E s := by
  refine gone_ok (Inv.behind ok I) hN hi hln fun s' J => q s' ?_
  obtain ⟨e, na, _⟩ := J.pin (a, oe) (List.mem_append_right _ List.mem_cons_self)
  exact track (Inv.drop J) e hz hd na n0 nL np
/-- try: body / except x as n: suite, the exception held behind it -/
theorem ps_try_asV (hs : X.stack = X.env :: X.outer) (hf : X.env.frame = some X.env.locals) (hex : X.ex = []) (hN : X.N.Nodup) (hi : X.N[i]? = some n) (hln : X.env.kindOf n = some .local) (hg : Gl X x) (hm : X.mg x = some c) (hdb : (x == ("__debug__" : Str)) = false) (tk : Takes X Wout)
    (hb : ∀ (W : WX) (pn : List (Addr × Obj)) (xe : Value → Shared → Prop), Takes (X.tr pn xe) W → PSs (X.tr pn xe) body (tb W))
    (hsu : ∀ (a : Addr) (oe : Obj) (cls : Value) (d : Option Addr) (pn : List (Addr × Obj)), PSs (X.suite a ((a, oe) :: pn)) (b₀ :: suite) (ts a cls d)) :
    PS X (.Try body [.ExceptHandler (some (.Name x np)) (some n) (b₀ :: suite) pos'] [] [] pos) (fun D σ H => tb (wAsV X.K c i ts Wout D) D σ H) := by
  constructor
  intro pins s σ H D I h
  have ok := I.ok
  refine wpAny_Try_except (wpAny_mono ((hb (wAsV X.K c i ts Wout D) (X.pn ++ pins) _ fun u s' air => ?fall).run [] s σ H D (I.toTry _) h) (fun f s1 z => ?over) (fun e s1 z => z))
  case over =>
    cases f with
    | next =>
      obtain ⟨σ', H', J, z⟩ := z
      exact wpAny_execs_nil ⟨σ', H', J.ofTry ok, z⟩
    | ret u =>
      obtain ⟨v, σ', H', J, z⟩ := z
      exact ⟨v, σ', H', J.ofTry ok, z⟩
    | brk | cont =>
      obtain ⟨σ', H', J, z⟩ := z
      exact ⟨σ', H', J.ofTry ok, z⟩
  case fall =>
    obtain ⟨a, B, sI, _, σ', H', cls, d, rfl, J, nb, up, sky, na, os, ag, b, eb, yes, no⟩ := air
    replace J : Inv X pins σ' H' sI := J.ofTry ok
    refine Sky.land (env := X.env) (outer := X.outer) Zc.steady (by rw [ok.frames, hs]) hf (by rw [← hs]; exact sky) fun h3 fl up' => ?_
    obtain ⟨nL, nF, n0, np⟩ := landed_new hs hf hex J nb fl
    obtain ⟨oe, vs, he, hz, hd⟩ := fl.there
    have J3 : Inv X pins σ' H' { s' with heap := h3 } := J.landed nb fl.1 (up.trans up') os ag
    refine wpAny_handleBy_cons (codeAny_handlers_test ?_) (fun z => nomatch z)
    have type : PySem.W.Looks (model X.prog X.w) h3 (typeOf (.ref a)) cls := fun _ _ _ _ k z => wpAny_typeOf_ref (k _ _ he) (by rw [hz.1]; exact z)
    refine ld_glob (X := X.suite a ((a, oe) :: (X.pn ++ pins))) (J3.suite he hd na nL nF) hg hm ((PySem.W.exm_one (M := model X.prog X.w) J3.kIn type eb).here ?_) hdb
    cases b with
    | false =>
      refine wpAny_handleBy_nil ?_
      obtain ⟨_, _, _, o2, v2, T, _, _, g1, _, g2, g3, _⟩ := id fl
      unfold PySem.passOn
      refine wpAny_bind (wpAny_field g1 g2 g3 ?_)
      have on : wpAny (model X.prog X.w) X.A (setFlight (.ref a) X.env.frame) (fun _ s4 => wpAny (model X.prog X.w) X.A (throw (.ref a) : Sem Flow) (SP X pins D) X.xe s4) X.xe { s' with heap := h3 } := by
        rw [hf]
        exact HandSPX.setFlight_upZ fl fun h4 held up4 => wpAny_throw (tk _ _ ⟨a, B, sI, pins, σ', H', cls, d, rfl, J, nb, (up.trans up').trans up4, .inr (.inr (by rw [hs]; exact held)), na, os, ag, no rfl⟩)
      rw [if_neg (by simp)]
      first | exact wpAny_bind (wpAny_pure (wpAny_bind on)) | exact wpAny_bind on
    | true =>
      refine codeAny_handlers_suite_as (HandSPX.lands_againZ fl fun h4 fl4 up4 => ?_)
      obtain ⟨oe, vs, he, hz, hd⟩ := fl4.there
      have J4 : Inv X pins σ' H' { s' with heap := h4 } := J.landed nb fl4.1 ((up.trans up').trans up4) os ag
      refine store_ok (X := X.suite a ((a, oe) :: (X.pn ++ pins))) (v := .ref a) (J4.suite he hd na nL nF) hN hi (.inl hln) rfl (fun s5 S5 => ?_) (.inr hln)
      refine wpAny_mono ((hsu a oe cls d (X.pn ++ pins)).run [] s5 _ H' _ S5 (yes rfl a na)) (fun f s6 z => ?_) (fun _ _ z => z.elim)
      cases f with
      | ret u =>
        obtain ⟨v, σ6, H6, S6, r, z⟩ := z
        exact behind_as ok hN hi hln hz hd n0 nL np S6 fun s7 J7 => ⟨v, _, _, J7, r, z⟩
      | next | brk | cont =>
        obtain ⟨σ6, H6, S6, z⟩ := z
        exact behind_as ok hN hi hln hz hd n0 nL np S6 fun s7 J7 => ⟨_, _, J7, z⟩
end

/-! ### what the written part says of an exception class of the program -/
structure ECls (K : PySem.W.Frag) (C fI : Addr) : Prop where
  o : OexC K C
  f : XfC K C
  i : ExcC K C
  no : PySem.W.findIn K (.ref C) "value" = some none
  ini : PySem.W.findIn K (.ref C) "__init__" = some (some (.ref fI))
  tI : PySem.W.typeIn K (.ref fI) = some (.type "function")
def oexB (K : PySem.W.Frag) (C : Addr) : Bool := match K.lookup C with
  | some ⟨.type "type", _, .cls cd, sl⟩ => (match cd.mro, sl.toList with
    | .ref C' :: bm, [_, _, _, _, some (.builtin n), _] => C' == C && (n == "ValueError.__new__" && (!cd.hasDel && (cd.hasDict && PySem.HandSPX.refsVE bm)))
    | _, _ => false)
  | _ => false
theorem oexB_ok {K : PySem.W.Frag} {C : Addr} (q : oexB K C = true) : ∃ nm q N bs bm sn sub ab col dd k0 k1 k2 k3 k5, K.lookup C = some (excClassObj nm q C N bs bm true sn sub ab col dd k0 k1 k2 k3 k5 "ValueError.__new__") ∧ PySem.HandSPX.refsVE bm = true := by
  unfold oexB at q
  split at q
  · rename_i dd cd sl ho
    split at q
    · rename_i C' bm k0 k1 k2 k3 n k5 hm hs
      simp only [Bool.and_eq_true, beq_iff_eq, Bool.not_eq_true'] at q
      obtain ⟨rfl, rfl, hdel, hdic, ht⟩ := q
      obtain ⟨nm, bs, mro, ns, qn, hd, sn, sub, ab, col, del⟩ := cd
      dsimp only at hm hdel hdic
      subst hm hdel hdic
      have hsl : sl = #[k0, k1, k2, k3, some (.builtin "ValueError.__new__"), k5] := by
        obtain ⟨l⟩ := sl
        simp only at hs
        rw [hs]
      subst hsl
      exact ⟨nm, qn, ns, bs, bm, sn, sub, ab, col, dd, k0, k1, k2, k3, k5, ho, ht⟩
    · cases q
  · cases q
def eclsL (K : PySem.W.Frag) (C fI : Addr) : List Bool := [oexB K C, He.eqO (PySem.W.findIn K (.ref C) "__setattr__") (some (some (.builtin "object.__setattr__"))), decide (PySem.W.subIn K (.ref C) (.type "BaseException") = some true), decide (PySem.W.typeIn K (.ref C) = some (.type "type")), PySem.W.keepIn K (.ref C), xfB K C,
  He.eqO (PySem.W.findIn K (.ref C) "__class__") (some (some (.builtin "object.__class__"))), He.eqO (PySem.W.specialIn K (.builtin "object.__class__") "__get__") (some (some (.builtin "getset_descriptor.__get__"))), decide (PySem.W.takesIn K (.builtin "object.__class__") = some true),
  decide (PySem.W.mroIn K C (.type "object") = some true), He.eqO (PySem.W.findIn K (.ref C) "value") (some none), He.eqO (PySem.W.findIn K (.ref C) "__init__") (some (some (.ref fI))), decide (PySem.W.typeIn K (.ref fI) = some (.type "function"))]
def eclsB (K : PySem.W.Frag) (C fI : Addr) : Bool := (eclsL K C fI).all id
theorem ecls_ok {K : PySem.W.Frag} {C fI : Addr} (h : eclsB K C fI = true) : ECls K C fI := by
  unfold eclsB eclsL at h
  simp only [List.all_cons, List.all_nil, Bool.and_true, Bool.and_eq_true, id] at h
  obtain ⟨h1, h2, h3, h4, h5, h6, h7, h8, h9, h10, h11, h12, h13⟩ := h
  have x := xfB_ok h6
  exact ⟨⟨oexB_ok h1, He.eqO_ok h2, of_decide_eq_true h3, of_decide_eq_true h4, h5⟩, x, ⟨x.ga, x.gg, x.exC, x.hdC, He.eqO_ok h7, He.eqO_ok h8, of_decide_eq_true h9, of_decide_eq_true h10⟩, He.eqO_ok h11, He.eqO_ok h12, of_decide_eq_true h13⟩

/-! ### e.value of a held exception -/
def tXv (K : PySem.W.Frag) (n : Str) (te : TE) : TE := fun σ H Q => te σ H fun x H1 => ∃ (a C dd : Addr) (fs : List (Str × V)) (v : V), x = .ref a ∧ H1 a = some (ExcV (.ref C) (some dd) a) ∧ H1 dd = some (.xd fs) ∧ XfC K C ∧ PySem.W.findIn K (.ref C) n = some none ∧ fs.lookup n = some v ∧ Q v H1
theorem excV_inst {X : Cx} {pins : List (Addr × Obj)} {σ : L2.St} {H : Hp} {s : Shared} {a C dd : Addr} {fs : List (Str × V)} (I : Inv X pins σ H s) (ea : H a = some (ExcV (.ref C) (some dd) a)) (ed : H dd = some (.xd fs)) :
    ∃ (oe od : Obj) (mA : Str → Option Value), PySem.W.InstAt s.heap a oe C (some od) ∧ (∀ f, RelO (fs.lookup f) (mA f)) ∧ ∀ f, PySem.W.lookIn f od = some (mA f) := by
  obtain ⟨oe, vs, he, hz, hd⟩ := excV_at I.hok ea
  have hx : ObjOk X.prog X.w H s.heap dd (.xd fs) := I.hok dd _ ed
  obtain ⟨mA, hns, hr⟩ := hx
  obtain ⟨od, ho, hl⟩ := lookIn_ns hns
  exact ⟨oe, od, mA, ⟨he, hz.1, by unfold PySem.W.notCls; rw [hd] <;> rfl, by rw [hz.2]; exact ho⟩, hr, hl⟩
theorem pe_xv {X : Cx} {e : Expr} {te : TE} {pos : Pos} {n : Str} (he : PE X e te) (hb : attributeBase e n X.env (eval e X.env) = eval e X.env := by rfl) : PE X (.Attribute e n pos) (tXv X.K n te) := by
  refine ⟨fun pins s σ H Q I h => ?_⟩
  refine attr_of hb (thn (he.run pins s σ H _ I h) fun u s1 hh => ?_)
  obtain ⟨x, H1, I1, rx, a, C, dd, fs, v, ex, ea, ed, T, hno, l, q⟩ := hh
  subst ex
  obtain rfl : u = Value.ref a := rx
  obtain ⟨oe, od, mA, J, hr, hl⟩ := excV_inst I1 ea ed
  obtain ⟨u, hu, ru⟩ := RelO.some_of (v := v) (o := mA n) (by rw [← l]; exact hr n)
  exact HandSPX.exc_get I1.kIn J T.ga T.gg T.exC (PySem.W.findObj_own T.hdC hno rfl (by rw [hl, hu])) (handed_of ru) ⟨v, H1, I1.tok _, ru, q⟩

/-! ### isinstance(e, C), e None or a held exception -/
def rIsX (K : PySem.W.Frag) : List V → Hp → VK → Prop := fun xs H Q => rIsi K xs H Q ∨ ∃ (a C dd D : Addr) (fs : List (Str × V)) (b : Bool), xs = [.ref a, .ref D] ∧ H a = some (ExcV (.ref C) (some dd) a) ∧ H dd = some (.xd fs) ∧ ExcC K C ∧ PySem.W.kitOne K (.ref C) (.ref D) = some b ∧ Q (.bl b) H
theorem call_isX {X : Cx} : CallR X (.builtin "isinstance") (rIsX X.K) := by
  intro pins s σ H xs us Q I r h
  rcases h with h | ⟨a, C, dd, D, fs, b, rfl, ea, ed, T, e, q⟩
  · exact call_isi pins s σ H xs us Q I r h
  · obtain ⟨u1, u2, rfl, r1, r2⟩ := vals2 r
    cases (show u1 = Value.ref a from r1)
    cases (show u2 = Value.ref D from r2)
    obtain ⟨oe, od, mA, J, _, _⟩ := excV_inst I ea ed
    have hcl : (PySem.W.clsIn X.K C).isSome = true := by
      obtain ⟨cd, hc, _⟩ := PySem.W.any_some T.hd
      rw [hc] <;> rfl
    exact PySem.W.kia_one (PySem.W.kitx_exc hcl T.hg T.hk T.hs T.ha T.hn T.ht T.hm) I.kIn J e (fun z => nomatch z) fun tk => ⟨.bl b, H, I.kept (t' := tk) fun _ _ z => z, rfl, q⟩
section
variable {K : PySem.W.Frag} {H : Hp} {Q : VK}
theorem r_isXn {D : Addr} (hk : PySem.W.kitOne K (.type "NoneType") (.ref D) = some false) (q : Q (.bl false) H) : rIsX K [.non, .ref D] H Q := .inl ⟨.non, .ref D, .type "NoneType", .ref D, false, rfl, .own D, .base .non, hk, q⟩
theorem r_isXe {a C dd D : Addr} {fs : List (Str × V)} {b : Bool} (ea : H a = some (ExcV (.ref C) (some dd) a)) (ed : H dd = some (.xd fs)) (T : ExcC K C) (hk : PySem.W.kitOne K (.ref C) (.ref D) = some b) (q : Q (.bl b) H) : rIsX K [.ref a, .ref D] H Q := .inr ⟨a, C, dd, D, fs, b, rfl, ea, ed, T, hk, q⟩
end

/-! ### raise C(e), the value kept -/
def spInit (K : PySem.W.Frag) : Sp := fun vs H Q _ => ∃ (a C : Addr) (v : V), vs = [.ref a, v] ∧ H a = some (exo a C none) ∧ OexC K C ∧ PySem.W.findIn K (.ref C) "value" = some none ∧ ∀ dx, H dx = none → dx ≠ a → Q .non (upd (upd H dx (exd dx [("value", v)])) a (exo a C (some dx)))
def ErrI (P : Program) (w : World) (K : PySem.W.Frag) (mg : Str → Option Value) (base : Heap) (fI : Addr) : Prop := ∃ fd, FnOk P w K mg base CX0 1 fI fd ["self", "value"] (spInit K) ∧ Binds K fd ["self", "value"] []
def errK (K : PySem.W.Frag) (C : Addr) (W : WX) (σ : L2.St) : List V → Hp → Prop := fun vs H1 => vs.length ≤ 1000 ∧ ∀ a, H1 a = none → spInit K (.ref a :: (vs ++ [])) (upd H1 a (exo a C none))
  (fun v H2 => v = .non ∧ ∃ (d : Addr) (fs : List (Str × V)), H2 a = some (exo a C (some d)) ∧ H2 d = some (exd d fs) ∧ H1 d = none ∧ W (.ref C) (some d) σ (upd (del H2 a) d (.xd fs))) (fun _ _ _ => False)
def tRz (K : PySem.W.Frag) (C : Addr) (W : WX) (ta : TA) : TS := fun _ σ H => ta σ H (errK K C W σ)
theorem ps_err {X : Cx} {x : Str} {C fI : Addr} {W : WX} {e : Expr} {te : TE} {j : Nat} {p pos pos2 : Pos} (T : ECls X.K C fI) (F : ErrI X.prog X.w X.K X.mg X.base fI) (hm : X.mg x = some (.ref C)) (hr : Room j X.A) (hc : X.calm = true) (tk : Takes X W) (hg : Gl X x) (he : PE X e te) (hj : 2 ≤ j := by decide)
    (hdb : (x == ("__debug__" : Str)) = false := by decide) (hs : starEach [e] X.env = (false, eval e X.env) :: starEach [] X.env := by rfl) : PS X (.Raise (some (.Call (.Name x p) [e] [] pos)) none pos2) (tRz X.K C W (tCons te tNil)) := by
  obtain ⟨fd, F1, b⟩ := F
  exact ps_raise hc tk (pmk_oex T.o T.ini T.tI F1 (hr.mono hj) b .nil pass0 hg hm (pa_cons he pa_nil hs) hdb hs (by rfl))
section
variable {K : PySem.W.Frag} {H : Hp} {σ : L2.St} {D : Ends} {W : WX} {C fI : Addr} {ta : TA}
theorem r_rz (h : ta σ H (errK K C W σ)) : tRz K C W ta D σ H := h
theorem err_of {v : V} (T : ECls K C fI) (h : ∀ d, H d = none → W (.ref C) (some d) σ (upd H d (.xd [("value", v)]))) : errK K C W σ [v] H := by
  refine ⟨by show 1 ≤ 1000; decide, fun a ha => ⟨a, C, v, rfl, upd_same, T.o, T.no, fun dx hd hne => ⟨rfl, dx, [("value", v)], upd_same, by rw [upd_ne hne, upd_same], ?_, ?_⟩⟩⟩
  · rw [← hd, upd_ne hne]
  · have hd' : H dx = none := by rw [← hd, upd_ne hne]
    have e : upd (del (upd (upd (upd H a (exo a C none)) dx (exd dx [("value", v)])) a (exo a C (some dx))) a) dx (.xd [("value", v)]) = upd H dx (.xd [("value", v)]) := by
      funext b
      by_cases h1 : b = dx
      · rw [h1, upd_same, upd_same]
      · rw [upd_ne h1, upd_ne h1]
        by_cases h2 : b = a
        · rw [h2, del_same, ha]
        · rw [del_ne h2, upd_ne h2, upd_ne h1, upd_ne h2]
    rw [e]
    exact h dx hd'
end

/-! ### a thing to be called without arguments, handed on -/
/-- f, known in the state s of the frames st: called later it reads as tl -/
structure Thk (P : Program) (w : World) (K : PySem.W.Frag) (mg : Str → Option Value) (base : Heap) (st : List Env) (s : Shared) (H : Hp) (k : Nat) (q : Str) (f c' : Addr) (tl : XK → Hp → VK → Prop) : Prop where
  obj : ∀ (s1 : Shared) (H1 : Hp), Un (frs st) [] H H1 s.heap s1.heap → PySem.W.FnAt f s1.heap
  run : ∀ (A : Around) (outer : List Env) (s1 : Shared) (H1 : Hp) (Q : VK) (E : XK), Room (k + 1) A → Env0 P w K mg base A outer s1 H1 → Un (frs st) [] H H1 s.heap s1.heap → H1 c' = some (CodeO c' q) → tl E H1 Q →
    codeAny (model P w) A (.call (.ref f) ⟨[], []⟩) (CR (L2.CX P w) outer P w H1 s1 Q E) s1
section
variable {X : Cx} {pins : List (Addr × Obj)} {σ : L2.St} {H : Hp} {s : Shared}
/-- a lambda just made is such a thing -/
theorem thk_of {f c' : Addr} {pm ctv : Value} {params : Arguments} {body : Expr} {scope : Scope} {k : Nat} {t : XK → TE} (I : Inv X pins σ H s) (L : LamS X.env.scope scope)
    (hf : s.heap.get? f = some (PySem.W.kla_obj "<lambda>" (X.env.qual ++ "<lambda>") params body scope (cloFrom X.env.cells scope.names []) pm c' ctv)) (hfn : H f = none) (hfr : f ∉ frs X.stack)
    (hbind : ∀ (q : Str) (cl : List (Str × Addr)) (pm cv ctv : Value), bindArgs (PySem.W.kla_fn "<lambda>" q params body scope cl pm cv ctv) ⟨[], []⟩ = pure [])
    (hbody : ∀ (A : Around) (outer : List Env) (s : Shared) (H : Hp) (E : XK), Room k (A.deeper (lamEnv X scope s.heap.objs.size f c')) → PE (lamCx X A outer s H E scope f c') body (t E)) :
    Thk X.prog X.w X.K X.mg X.base X.stack s H k (X.env.qual ++ "<lambda>") f c' (fun E H' Q' => t E σ H' Q') := by
  have look : ∀ (s1 : Shared) (H1 : Hp), Un (frs X.stack) [] H H1 s.heap s1.heap → s1.heap.get? f = some (PySem.W.kla_obj "<lambda>" (X.env.qual ++ "<lambda>") params body scope (cloFrom X.env.cells scope.names []) pm c' ctv) :=
    fun s1 H1 un => un.keep f _ hf hfn hfr (by simp)
  refine ⟨fun s1 H1 un => ⟨_, _, _, _, look s1 H1 un⟩, fun A outer s1 H1 Q E hr e0 un hc ht => ?_⟩
  obtain ⟨⟨oc, vs, tk, g1, g2, g3⟩, _⟩ := e0.hok c' _ hc
  refine PySem.W.kla_callFunE hr.depth (look s1 H1 un) rfl L.co L.gen rfl ⟨c', oc, vs, tk, rfl, g1, g2, g3⟩ ?_
  rw [hbind]
  refine wpAny_pure (wpAny_newFunctionEnv (fun y hy => (L.own y hy).2) (fun y hy => absurd hy (by simp)) (fun h₁ hns hsb => ⟨(e0.mod.nolimit.keeps fun b o e => (e0.bs b o e).1).fresh _ hsb, ?_⟩) L.kind)
  have kp : ∀ b o, s1.heap.get? b = some o → h₁.get? b = some o := fun b o e => hsb.extBut b o (Nat.ne_of_lt (Heap.lt_size e)) (Heap.get?_push_of_some _ e)
  have J := lam_start2 (E := E) (f := f) (c' := c') (tk := s1.toks + ([] : List (Str × Value)).length) I L e0 hr.hd un hns kp
  refine PySem.W.kla_codeExpr (wpAny_mono ((hbody A outer s1 H1 E (hr.deeper _)).run [] _ _ H1 Q J ht) (fun v s' hq => ?_) fun e s' hq => hq)
  obtain ⟨w', H', J', rv, q⟩ := hq
  exact ⟨w', H', J'.os, J'.bare, J'.base, J'.hok, rv, q⟩
/-- what changed since the entry, seen from the callers -/
theorem un_from (hex : X.ex = []) (I : Inv X pins σ H s) {H1 : Hp} {h1 : Heap} (un : Un (frs X.stack) [] H H1 s.heap h1) : Un X.fs [] X.H_0 H1 X.s_0.heap h1 := by
  have B : Un X.fs [] X.H_0 H X.s_0.heap s.heap := by
    have z := I.base
    rw [hex] at z
    exact z
  have nst : ∀ b o, X.s_0.heap.get? b = some o → b ∉ X.fs → b ∉ frs X.stack := fun b o e hb hm => by
    rcases List.mem_cons.mp (I.stkSub b hm) with z | z
    · have h1 := Heap.lt_size e
      have h2 := I.ok.above
      rw [z] at h1
      exact absurd (Nat.lt_of_lt_of_le h1 h2) (Nat.lt_irrefl _)
    · exact hb z
  refine ⟨fun b o e n hb hx => ?_, fun b o e n hb hx => ?_, fun b o e n hx => ?_, fun b o e hx => ?_, fun b xs e => un.tups b xs (B.tups b xs e), fun b o u e => un.frzs b o u (B.frzs b o u e), fun b ps e => ?_⟩
  · exact un.keep b o (B.keep b o e n hb hx) (B.free b o e n hx) (nst b o e hb) hx
  · obtain ⟨sl, z⟩ := B.slot b o e n hb hx
    obtain ⟨sl', z'⟩ := un.any z (B.free b o e n hx) hx
    exact ⟨sl', z'⟩
  · obtain ⟨o', z⟩ := B.there b o e hx
    exact un.free b o' z (B.free b o e n hx) hx
  · obtain ⟨o', z⟩ := B.there b o e hx
    exact un.there b o' z hx
  · obtain ⟨m1, z⟩ := B.tbls b ps e
    obtain ⟨m2, z'⟩ := un.tbls b _ z
    exact ⟨m1 ++ m2, by rw [z', Array.append_assoc]⟩
variable {k : Nat} {q : Str} {f c' : Addr} {tl : XK → Hp → VK → Prop}
/-- one frame further in -/
theorem Thk.on (T : Thk X.prog X.w X.K X.mg X.base X.outer X.s_0 X.H_0 k q f c' tl) (hex : X.ex = []) (I : Inv X pins σ H s) : Thk X.prog X.w X.K X.mg X.base X.stack s H k q f c' tl :=
  ⟨fun s1 H1 un => T.obj s1 H1 (un_from hex I un), fun A outer s1 H1 Q E hr e0 un => T.run A outer s1 H1 Q E hr e0 (un_from hex I un)⟩
def tThk (i : Nat) (f c' : Addr) (q : Str) (tl : XK → Hp → VK → Prop) (E : L2.St → XK) : TE := fun σ H Q => σ[i]? = some (some (.ref f)) ∧ H c' = some (CodeO c' q) ∧ tl (E σ) H Q
/-- a() -/
theorem pe_thk {i j : Nat} {a : Str} {E : L2.St → XK} {p1 p2 : Pos} (T : Thk X.prog X.w X.K X.mg X.base X.outer X.s_0 X.H_0 k q f c' tl) (hex : X.ex = []) (hr : Room j X.A) (hx : ∀ σ, PassesAt (L2.CX X.prog X.w) X σ (E σ)) (hN : X.N[i]? = some a) (hv : Vis X.env.scope a) (hj : k + 1 ≤ j)
    (hd : (a == ("__debug__" : Str)) = false := by decide) (hcd : (a == ("__classdict__" : Str)) = false := by decide) : PE X (.Call (.Name a p1) [] [] p2) (tThk i f c' q tl E) := by
  refine ⟨fun pins s σ H Q I h => ?_⟩
  obtain ⟨hs, hc, ht⟩ := h
  refine wpAny_Call_Name_kw (thn ((pe_var (pos := p1) (i := i) hN hv hd hcd).run pins s σ H (fun v H1 => v = .ref f ∧ H1 = H) I ⟨.ref f, hs, rfl, rfl⟩) fun u s1 ⟨v, H1, I1, r1, ev, eH⟩ => ?_)
  subst ev eH
  obtain rfl : u = Value.ref f := r1
  have T1 := T.on hex I1
  refine PySem.W.callWith_F0 (T1.obj s1 H1 Un.refl) (wpAny_call (codeAny_mono (T1.run X.A X.stack s1 H1 Q (E σ) (hr.mono hj) I1.env0 Un.refl hc ht) fun r s' hq => ?_))
  cases r with
  | error e => exact hx σ pins H1 s1 e s' I1 hq
  | ok fl => cases fl with
    | ret u => exact I1.after hq
    | _ => exact False.elim hq
end
/-- a def that gets such a thing first -/
abbrev SpT := (XK → Hp → VK → Prop) → Addr → Addr → Str → Sp
structure OkT (P : Program) (w : World) (K : PySem.W.Frag) (mg : Str → Option Value) (base : Heap) (CX : CXT) (gd : Around → Prop) (k kt : Nat) (x : Str) (st : Stmt) (ps : List Str) (sp : SpT) : Prop where
  ex : ∃ f fd, mg x = some (.ref f) ∧ FnP K x st f fd ∧ Binds K fd ps [] ∧
    ∀ (A : Around) (outer : List Env) (s : Shared) (H : Hp) (args : Args) (us : List Value) (vs : List V) (Q : VK) (E : XK) (q : Str) (g c' : Addr) (tl : XK → Hp → VK → Prop), gd A → Room k A → Env0 P w K mg base A outer s H → Thk P w K mg base outer s H kt q g c' tl →
      BindsTo s fd args (ps.zip us) → Vals vs us → vs.length = ps.length → sp tl g c' q vs H Q E → codeAny (model P w) A (.call (.ref f) args) (CR CX outer P w H s Q E) s
theorem okT_of {P : Program} {w : World} {K : PySem.W.Frag} {mg : Str → Option Value} {base : Heap} {CX : CXT} {gd : Around → Prop} {k kt : Nat} {x : Str} {st : Stmt} {N ps : List Str} {sp : SpT} {f : Addr} {fd : FuncData} (g : mg x = some (.ref f)) (D : FnP K x st f fd) (b : Binds K fd ps []) (S : FnScope N ps (defScope st))
    (hbody : ∀ (cdv : Value) (A : Around) (outer : List Env) (s : Shared) (H : Hp) (vs : List V) (Q : VK) (E : XK) (q : Str) (g c' : Addr) (tl : XK → Hp → VK → Prop), gd A → Thk P w K mg base outer s H kt q g c' tl → Room k (A.deeper (envOfC x (defScope st) s.heap.objs.size f cdv)) → sp tl g c' q vs H Q E →
      ∃ t, PSs (cxOf CX P w K mg base N x (defScope st) f cdv A outer s H E) (defBody st) t ∧ t { nx := fun _ H' => Q .non H', rt := Q } (start N vs) H) : OkT P w K mg base CX gd (k + 1) kt x st ps sp := by
  refine ⟨f, fd, g, D, b, fun A outer s H args us vs Q E q gf c' tl hgd hr e0 T hb r hl h => ?_⟩
  obtain ⟨oc, od, dV, kV, doc, pm, an, cdv, ct, osl, rfl, lk, hcd, _, _⟩ := D.ex
  exact run_ofS lk hcd S hr e0 hb r hl fun hr' => hbody cdv A outer s H vs Q E q gf c' tl hgd T hr' h
section
variable {X : Cx} {CX : CXT} {gd : Around → Prop} {k kt j : Nat} {x : Str} {st : Stmt} {ps : List Str} {sp : SpT} {E : XK} {q : Str} {g c' : Addr} {tl : XK → Hp → VK → Prop} {e : Expr} {es : List Expr} {t : TA} {p pos : Pos}
/-- x(a, ..), a such a thing that this def got itself -/
theorem pe_clT (F : OkT X.prog X.w X.K X.mg X.base CX gd k kt x st ps sp) (hgd : gd X.A) (T : Thk X.prog X.w X.K X.mg X.base X.outer X.s_0 X.H_0 kt q g c' tl) (hex : X.ex = []) (hr : Room j X.A) (hg : Gl X x) (hx : Passes CX X E) (ha : PA X (e :: es) t) (hlen : ∀ vs H Q E, sp tl g c' q vs H Q E → vs.length = ps.length) (hj : k ≤ j := by decide)
    (hdb : (x == ("__debug__" : Str)) = false := by decide) (he : starEach (e :: es) X.env = (false, eval e X.env) :: starEach es X.env := by rfl) (hpl : (backTo pos (starEach es X.env)).any (·.1) = false := by rfl) :
    PE X (.Call (.Name x p) (e :: es) [] pos) (tCall (sp tl g c' q) [] E t) := by
  obtain ⟨f, fd, gg, D, b, F⟩ := F.ex
  refine ⟨fun pins s σ H Q I h => ?_⟩
  refine wpAny_Call_Name_kw (ld_glob I hg gg ?_ hdb)
  refine PySem.W.callWith_K (h₀ := X.base) I.ok.mod.kin D.kp (thn (ha.run pos pins s σ H _ I h) fun us s1 ⟨vs, H1, I1, r, h1⟩ => ⟨I1.kIn, ?_⟩) he hpl
  have h1 : sp tl g c' q (vs ++ []) H1 Q E := h1
  rw [List.append_nil] at h1
  have hl := hlen _ _ _ _ h1
  have hb := b s1 us I1.kIn (by rw [List.append_nil, ← r.length]; exact hl)
  rw [List.append_nil] at hb
  refine wpAny_call (codeAny_mono (F X.A X.stack s1 H1 ⟨us, []⟩ us vs Q E q g c' tl hgd (hr.mono hj) I1.env0 (T.on hex I1) hb r hl h1) fun r s' hq => ?_)
  cases r with
  | error e => exact hx pins σ H1 s1 e s' I1 hq
  | ok fl => cases fl with
    | ret u => exact I1.after hq
    | _ => exact False.elim hq
/-- x(lambda: body, ..) -/
def tLamT (T : List (Addr × Str)) (q : Str) (sp : SpT) (tl : XK → TE) (E : XK) (ta : TA) : TE := fun σ H Q => Tabs T H ∧ ∀ (f c' : Addr) (H1 : Hp), ExtN H H1 → Tabs T H1 → H1 c' = some (CodeO c' q) →
  ta σ H1 fun vs H2 => H2 c' = some (CodeO c' q) ∧ sp (fun E H' Q' => tl E σ H' Q') f c' q (.ref f :: vs) H2 Q E
theorem pe_lamT {T : List (Addr × Str)} {c Pt : Addr} {params : Arguments} {body : Expr} {scope : Scope} {tb : XK → TE} {lpos : Pos} (F : OkT X.prog X.w X.K X.mg X.base CX gd k kt x st ps sp) (hgd : gd X.A) (hs : X.stack = X.env :: X.outer) (hfr : X.env.frame = some X.env.locals) (TB : TabB X.base X.mg c Pt) (hcode : X.env.code = .ref c)
    (hmT : (Pt, X.env.qual ++ "<lambda>") ∈ T) (hu : ∀ p ∈ T, p.1 = Pt → p.2 = X.env.qual ++ "<lambda>") (hr : Room j X.A) (hg : Gl X x) (hx : Passes CX X E) (L : LamS X.env.scope scope) (hdef : defaultsOf params X.env = ([], []))
    (hbind : ∀ (q : Str) (cl : List (Str × Addr)) (pm cv ctv : Value), bindArgs (PySem.W.kla_fn "<lambda>" q params body scope cl pm cv ctv) ⟨[], []⟩ = pure [])
    (hbody : ∀ (A : Around) (outer : List Env) (s : Shared) (H : Hp) (E : XK) (f c' : Addr), Room kt (A.deeper (lamEnv X scope s.heap.objs.size f c')) → PE (lamCx X A outer s H E scope f c') body (tb E))
    (ha : PA X es t) (hlen : ∀ tl g c' q vs H Q E, sp tl g c' q vs H Q E → vs.length = ps.length) (hj : k ≤ j := by decide)
    (hdb : (x == ("__debug__" : Str)) = false := by decide) (he : starEach (.Lambda params body scope lpos :: es) X.env = (false, eval (.Lambda params body scope lpos) X.env) :: starEach es X.env := by rfl) (hpl : (backTo pos (starEach es X.env)).any (·.1) = false := by rfl) :
    PE X (.Call (.Name x p) (.Lambda params body scope lpos :: es) [] pos) (tLamT T (X.env.qual ++ "<lambda>") sp tb E t) := by
  obtain ⟨f, fd, gg, D, b, F⟩ := F.ex
  refine ⟨fun pins s σ H Q I h => ?_⟩
  obtain ⟨hT, h⟩ := h
  refine wpAny_Call_Name_kw (ld_glob I hg gg ?_ hdb)
  refine PySem.W.callWith_K (h₀ := X.base) I.ok.mod.kin D.kp ?_ he hpl
  rw [he]
  show wpAny _ _ (spliced ((false, eval (.Lambda params body scope lpos) X.env) :: backTo pos (starEach es X.env))) _ _ s
  refine Calls.spliced_cons (lam_make2 I TB hcode hmT hu hT hdef (L.has I.ok) fun lf c' pm' ctv H1 s' I1 eN T1 hf hfn hfs hco => ?_)
  have nL : lf ≠ X.env.locals := fun z => hfs (List.mem_filterMap.mpr ⟨X.env, by rw [hs]; exact List.mem_cons_self, by rw [hfr, z]⟩)
  have nF : lf ∉ X.fs := fun hm => by
    obtain ⟨e, he, z⟩ := List.mem_filterMap.mp hm
    exact hfs (List.mem_filterMap.mpr ⟨e, by rw [hs]; exact List.mem_cons_of_mem _ he, z⟩)
  have I1' : Inv X ((lf, PySem.W.kla_obj "<lambda>" (X.env.qual ++ "<lambda>") params body scope (cloFrom X.env.cells scope.names []) pm' c' ctv) :: pins) σ H1 s' := ⟨I1.ok, I1.os, I1.bare, I1.base, I1.loc, I1.cell, I1.free, I1.freeC, fun p hp => by
    rcases List.mem_append.mp hp with z | z
    · exact I1.pin p (List.mem_append_left _ z)
    · rcases List.mem_cons.mp z with z | z
      · rw [z]
        exact ⟨hf, hfn, nL, nF, fun v z => nomatch z⟩
      · exact I1.pin p (List.mem_append_right _ z), I1.hok, I1.len⟩
  refine thn (ha.run pos _ s' σ H1 _ I1' (h lf c' H1 eN T1 hco)) fun us s2 ⟨vs, H2, I2, r, hc2, h2⟩ => ⟨I2.kIn, ?_⟩
  obtain ⟨hf2, hfn2, _⟩ := I2.pin _ (List.mem_append_right _ List.mem_cons_self)
  have I2' : Inv X pins σ H2 s2 := ⟨I2.ok, I2.os, I2.bare, I2.base, I2.loc, I2.cell, I2.free, I2.freeC, fun p hp => I2.pin p (by
    rcases List.mem_append.mp hp with z | z
    · exact List.mem_append_left _ z
    · exact List.mem_append_right _ (List.mem_cons_of_mem _ z)), I2.hok, I2.len⟩
  have TH := thk_of (t := tb) I2' L hf2 hfn2 hfs hbind fun A outer s H E hr2 => hbody A outer s H E lf c' hr2
  have hl := hlen _ _ _ _ _ _ _ _ h2
  have r' : Vals (V.ref lf :: vs) (Value.ref lf :: us) := .cons rfl r
  have hb := b s2 (Value.ref lf :: us) I2'.kIn (by rw [List.append_nil, ← r'.length]; exact hl)
  rw [List.append_nil] at hb
  refine wpAny_call (codeAny_mono (F X.A X.stack s2 H2 ⟨Value.ref lf :: us, []⟩ (Value.ref lf :: us) (V.ref lf :: vs) Q E _ lf c' _ hgd (hr.mono hj) I2'.env0 TH hb r' hl h2) fun r s' hq => ?_)
  cases r with
  | error e => exact hx pins σ H2 s2 e s' I2' hq
  | ok fl => cases fl with
    | ret u => exact I2'.after hq
    | _ => exact False.elim hq
end

/-! ### defs that hold lambdas: their code objects, the tables of these -/
/-- the rule for such a def -/
theorem okC {P : Program} {w : World} {K : PySem.W.Frag} {mg : Str → Option Value} {base : Heap} {CX : CXT} {k : Nat} {x : Str} {st : Stmt} {N ps : List Str} {sp : Sp} {fd : FuncData} (D : FnP K x st (He.ga K x) fd) (S : FnScope N ps (defScope st)) (len : ∀ vs H Q E, sp vs H Q E → vs.length = ps.length)
    (hbody : ∀ (cdv : Value) (A : Around) (outer : List Env) (s : Shared) (H : Hp) (vs : List V) (Q : VK) (E : XK), cdv = .ref (He.cT K (x, none)).1 → Room k (A.deeper (envOfC x (defScope st) s.heap.objs.size (He.ga K x) cdv)) → sp vs H Q E →
      ∃ t, PSs (cxOf CX P w K mg base N x (defScope st) (He.ga K x) cdv A outer s H E) (defBody st) t ∧ t { nx := fun _ H' => Q .non H', rt := Q } (start N vs) H) : FnOk P w K mg base CX (k + 1) (He.ga K x) fd ps sp := by
  obtain ⟨oc, od, dV, kV, doc, pm, an, cdv, ct, osl, rfl, lk, hcd, _, _⟩ := D.ex
  obtain ⟨c, rfl⟩ := He.codeIn_ref hcd
  have ec : He.codeOf K (x, none) = c := He.codeOf_eq (p := (x, none)) lk rfl
  exact fn_of lk hcd S len fun A outer s H vs Q E hr hsp => hbody (.ref c) A outer s H vs Q E (by rw [← ec] <;> rfl) hr hsp
/-- the tables of these defs, the lambda's qualified name -/
def tabs (K : PySem.W.Frag) (tf : List He.Defn) : List (Addr × Str) := tf.map fun p => ((He.cT K p).2, (p.1 ++ ".<locals>.") ++ "<lambda>")
theorem tabs_mem {K : PySem.W.Frag} {tf : List He.Defn} {p : He.Defn} (h : p ∈ tf) : ((He.cT K p).2, (p.1 ++ ".<locals>.") ++ "<lambda>") ∈ tabs K tf := List.mem_map.mpr ⟨p, h, rfl⟩
/-- no two of them share a table -/
def apartB (K : PySem.W.Frag) (tf : List He.Defn) : Bool := tf.all fun p => tf.all fun q => !decide ((He.cT K q).2 = (He.cT K p).2) || decide (q.1 = p.1)
theorem apart_ok {K : PySem.W.Frag} {tf : List He.Defn} (h : apartB K tf = true) {p : He.Defn} (hp : p ∈ tf) : ∀ r ∈ tabs K tf, r.1 = (He.cT K p).2 → r.2 = (p.1 ++ ".<locals>.") ++ "<lambda>" := fun r hr e => by
  obtain ⟨q, hq, rfl⟩ := List.mem_map.mp hr
  have z := List.all_eq_true.mp (List.all_eq_true.mp h p hp) q hq
  have e : (He.cT K q).2 = (He.cT K p).2 := e
  rw [decide_eq_true e] at z
  have z2 : q.1 = p.1 := of_decide_eq_true (by simpa using z)
  show (q.1 ++ ".<locals>.") ++ "<lambda>" = _
  rw [z2]
/-- what the defs of tf know of the heap at the bottom -/
def TBs (K : PySem.W.Frag) (mg : Str → Option Value) (base : Heap) (tf : List He.Defn) : Prop := ∀ p ∈ tf, TabB base mg (He.cT K p).1 (He.cT K p).2
theorem lawAt_of {l : PySem.W.OpenLaw} {w : World} {K : PySem.W.Frag} {CX : CXT} {k n : Nat} {x : Str} {mg : Str → Option Value} {fa : Addr} {h : Heap} {fl : List He.Fa} {fn : List He.DefD} {tf : List He.Defn} {ex : PySem.W.Frag → Bool} {fd : FuncData} {sp : Sp} (KX : K.In h) (c : He.SaysX fl fn [] tf ex w h K)
    (hb : ∀ (s : Shared) (u : Value), BindsTo s fd ⟨[u], []⟩ [(x, u)])
    (hsp : ∀ (H : Hp) (a : Addr) (ns : List Int), ns.length ≤ n → Tabs (tabs K tf) H → SqL K H a (ns.map V.int) → sp [.ref a] H (fun v _ => v = .bl true) fun _ _ _ => False)
    (F : ∀ base : Heap, K.In base → base.Ns mainGlobals mg → TBs K mg base tf → FnOk l.prog w K mg base CX k fa fd [x] sp) : LawAtS l w K CX k n x mg fa h := by
  have fw : ∀ {φ : Addr × Addr → Prop}, (∀ p ∈ tf, φ (He.cT K p)) → ∀ q ∈ tf.map (He.cT K), φ q := fun h q hq => by
    obtain ⟨p, hp, rfl⟩ := List.mem_map.mp hq
    exact h p hp
  refine ⟨fd, tf.map (He.cT K), sp, fw c.empty, fw c.out, fw fun p hp => PySem.W.codeHd_of_K KX (c.hd p hp), hb, fun H a ns hl _ hH hS => hsp H a ns hl (fun r hr => ?_) hS, fun base hK hN hT => F base hK hN fun p hp => hT _ (List.mem_map.mpr ⟨p, hp, rfl⟩)⟩
  obtain ⟨p, hp, rfl⟩ := List.mem_map.mp hr
  exact TabS.nil (hH _ (List.mem_map.mpr ⟨p, hp, rfl⟩))

/-! ### short words -/
def clsMeth (st : Stmt) (j : Nat) : Stmt := match st with
  | .ClassDef (body := b) .. => b.getD j (.Pass ⟨0, 0, 0, 0⟩)
  | _ => .Pass ⟨0, 0, 0, 0⟩
theorem TBs.at {K : PySem.W.Frag} {mg : Str → Option Value} {base : Heap} {tf : List He.Defn} (t : TBs K mg base tf) {p : He.Defn} (h : p ∈ tf) : TabB base mg (He.cT K p).1 (He.cT K p).2 := t p h
section
variable {K : PySem.W.Frag} {H H1 H2 : Hp} {Q : VK} {σ : L2.St} {D : Ends} {te : TE} {ta : TA}
theorem r_xv {n : Str} (h : te σ H fun x H1 => ∃ (a C dd : Addr) (fs : List (Str × V)) (v : V), x = .ref a ∧ H1 a = some (ExcV (.ref C) (some dd) a) ∧ H1 dd = some (.xd fs) ∧ XfC K C ∧ PySem.W.findIn K (.ref C) n = some none ∧ fs.lookup n = some v ∧ Q v H1) : tXv K n te σ H Q := h
theorem r_lamT {T : List (Addr × Str)} {q : Str} {sp : SpT} {tl : XK → TE} {E : XK} (hT : Tabs T H) (h : ∀ (f c' : Addr) (H1 : Hp), ExtN H H1 → Tabs T H1 → H1 c' = some (CodeO c' q) → ta σ H1 fun vs H2 => H2 c' = some (CodeO c' q) ∧ sp (fun E H' Q' => tl E σ H' Q') f c' q (.ref f :: vs) H2 Q E) : tLamT T q sp tl E ta σ H Q := ⟨hT, h⟩
theorem r_thk {i : Nat} {f c' : Addr} {q : Str} {tl : XK → Hp → VK → Prop} {E : L2.St → XK} (h1 : σ[i]? = some (some (.ref f))) (h2 : H c' = some (CodeO c' q)) (h : tl (E σ) H Q) : tThk i f c' q tl E σ H Q := ⟨h1, h2, h⟩
theorem r_asV {tb : WX → TS} {c : Value} {i : Nat} {ts : Addr → Value → Option Addr → TS} {Wout : WX} (h : tb (wAsV K c i ts Wout D) D σ H) : (fun D σ H => tb (wAsV K c i ts Wout D) D σ H) D σ H := h
/-- all but the tables stays: lists, tuples -/
theorem extN_sqt {a : Addr} {xs : List V} (e : ExtN H H1) (h : SqT K H a xs) : SqT K H1 a xs := by
  rcases h with h | h
  · rcases h with h | ⟨o, h⟩
    · exact .inl (.inl (e _ _ h fun ps z => nomatch z))
    · exact .inl (.inr ⟨o, e _ _ h fun ps z => nomatch z⟩)
  · exact .inr h
theorem extN_sql {a : Addr} {xs : List V} (e : ExtN H H1) (h : SqL K H a xs) : SqL K H1 a xs := by
  rcases h with h | h
  · rcases h with h | ⟨o, h⟩
    · exact .inl (.inl (e _ _ h fun ps z => nomatch z))
    · exact .inl (.inr ⟨o, e _ _ h fun ps z => nomatch z⟩)
  · exact .inr h
/-- all but the tables and one object -/
def ButT (a : Addr) (H H' : Hp) : Prop := ∀ b o, b ≠ a → H b = some o → (∀ ps, o ≠ .tbl ps) → H' b = some o
variable {a : Addr}
theorem ButT.refl : ButT a H H := fun _ _ _ h _ => h
theorem ButT.trans (x : ButT a H H1) (y : ButT a H1 H2) : ButT a H H2 := fun b o n h t => y b o n (x b o n h t) t
theorem ButT.ofB (x : But a H H1) : ButT a H H1 := fun b o n h _ => x b o n h
theorem ButT.ofN (x : ExtN H H1) : ButT a H H1 := fun b o _ h t => x b o h t
theorem ButT.of (x : Same H H1) : ButT a H H1 := fun b o _ h _ => x b o h
theorem tabs_but {T : List (Addr × Str)} (t : Tabs T H) (x : But a H H1) (h : ∀ ps, H a ≠ some (.tbl ps)) (h2 : ∀ c q, H a ≠ some (CodeO c q)) : Tabs T H1 := fun p hp => by
  obtain ⟨ps, h1, h3, h4⟩ := t p hp
  refine ⟨ps, x _ _ (fun z => h ps (z ▸ h1)) h1, h3, fun pos cv hc => ?_⟩
  obtain ⟨c, e1, e2⟩ := h4 pos cv hc
  exact ⟨c, e1, x _ _ (fun z => h2 c p.2 (z ▸ e2)) e2⟩
theorem codeO_lst {c : Addr} {q : Str} {xs : List V} : CodeO c q ≠ .lst xs := fun z => by
  unfold CodeO at z
  cases z
theorem tabs_pot {T : List (Addr × Str)} {c : Int} (t : Tabs T H) (P : PotAt H a c) (x : But a H H1) : Tabs T H1 := by
  obtain ⟨o, sd, n, e, _⟩ := P
  exact tabs_but t x (fun ps z => by rw [e] at z; cases z) fun c q z => by rw [e] at z; exact codeO_lst (Option.some.inj z).symm
theorem PotAt.extN {c : Int} (P : PotAt H a c) (x : ExtN H H1) : PotAt H1 a c := by
  obtain ⟨o, sd, n, e, r⟩ := P
  exact ⟨o, sd, n, x _ _ e (fun ps z => nomatch z), r⟩
theorem tabs_same {T : List (Addr × Str)} (t : Tabs T H) (e : Same H H1) : Tabs T H1 := t.ext e
theorem extN_same (e : Same H H1) : ExtN H H1 := fun b o h _ => e b o h
end
theorem inV_two {x a b : List Nat} : inV (.str (S x)) [.str (S a), .str (S b)] = (decide (x = a) || decide (x = b)) := by
  show ((S a == S x) || ((S b == S x) || false)) = _
  rw [S_beq, S_beq, Bool.or_false, decide_eq_decide.mpr (eq_comm (a := a)), decide_eq_decide.mpr (eq_comm (a := b))]
theorem r_in2 {K : PySem.W.Frag} {H : Hp} {Q : VK} {p : Addr} {x a b : List Nat} (hs : SqT K H p [.str (S a), .str (S b)]) (q : Q (.bl (decide (x = a) || decide (x = b))) H) : rIn K false (.str (S x)) (.ref p) H Q :=
  ⟨p, _, rfl, .inr hs, rfl, rfl, by rw [inV_two]; exact q⟩
theorem r_endV {i : Nat} {a : Addr} {cls : Value} {d : Option Addr} {D : Ends} {σ : L2.St} {H : Hp} (h : D.nx (σ.set i none) (upd H a (ExcV cls d a))) : (endV i a cls d D).nx σ H := h
theorem ExtN.mut {H H1 : Hp} {p : Addr} {o : HO} (e : ExtN H H1) (h : H p = none) : ExtN H (upd H1 p o) := fun b u q n => by
  rw [upd_ne (ne_of_none q h)]
  exact e b u q n
theorem tabs_mut {T : List (Addr × Str)} {H : Hp} {D : Addr} {xs : List V} {o : HO} (t : Tabs T H) (h : H D = some (.lst xs)) : Tabs T (upd H D o) :=
  tabs_but t (a := D) (fun b u n q => by rw [upd_ne n]; exact q) (fun ps z => by rw [h] at z; cases z) fun c q z => by rw [h] at z; exact codeO_lst (Option.some.inj z).symm
theorem tabs_new {T : List (Addr × Str)} {H : Hp} {p : Addr} {o : HO} (t : Tabs T H) (h : H p = none) : Tabs T (upd H p o) := t.ext (same_new h)
theorem wd_rep {n c : Nat} (h : c = 110 ∨ c = 102 ∨ c = 115) : Wd (List.replicate n c) := fun x hx => by rw [(List.mem_replicate.mp hx).2]; exact h
theorem wd_seg {h r : List Nat} {a n : Nat} (r0 : 0 < r.length) (wh : Wd h) (wr : Wd r) : Wd (seg (rw h r) a n) := fun c hc => by
  obtain ⟨j, _, rfl⟩ := List.mem_map.mp hc
  by_cases e : a + j < h.length
  · rw [rw_lt e, List.getD_eq_getElem?_getD, List.getElem?_eq_getElem e]
    exact wh _ (List.getElem_mem e)
  · rw [rw_ge (by omega)]
    have e2 : (a + j - h.length) % r.length < r.length := Nat.mod_lt _ r0
    rw [List.getD_eq_getElem?_getD, List.getElem?_eq_getElem e2]
    exact wr _ (List.getElem_mem e2)
theorem all_at {l : List Bool} (h : l.all id = true) (i : Nat) {b : Bool} (e : l[i]? = some b) : b = true := List.all_eq_true.mp h b (List.mem_of_getElem? e)
end Tf

set_option linter.all false
set_option maxRecDepth 100000
set_option maxHeartbeats 2000000
/-! mathematics of distances and twins -/
namespace Tf
open PySem L2
/-- places of all beginnings -/
def pls (l : List Nat) : List Int := (List.range (l.length + 1)).map fun i => pl (l.take i)
theorem pls_len (l : List Nat) : (pls l).length = l.length + 1 := by simp [pls]
theorem pls_last (l : List Nat) : atI ((pls l).map V.int) (-1) = some (.int (pl l)) := by
  have : pls l = (List.range l.length).map (fun i => pl (l.take i)) ++ [pl l] := by
    unfold pls
    rw [List.range_succ, List.map_append]
    simp
  rw [this, List.map_append]
  exact atI_last _ _
theorem pls_snoc (l : List Nat) (c : Nat) : pls (l ++ [c]) = pls l ++ [pst (pl l) c] := by
  unfold pls
  rw [List.length_append, List.length_singleton, List.range_succ (n := l.length + 1), List.map_append]
  congr 1
  · refine List.map_congr_left fun i hi => ?_
    have := List.mem_range.mp hi
    rw [List.take_append_of_le_length (by omega)]
  · rw [List.map_singleton, ← pl_snoc, List.take_of_length_le (by simp)]
theorem nu_min {p m : Int} (hm : m ∈ [(nu p).1, (nu p).2]) (hle : ∀ y, y ∈ [(nu p).1, (nu p).2] → m ≤ y) : m = p := by
  unfold nu at *
  split at hm <;> simp_all <;> omega
/-- the last letter, as a text -/
def lst1 (l : List Nat) : List Nat := l.drop (l.length - 1)
theorem lst1_snoc (z : List Nat) (c : Nat) : lst1 (z ++ [c]) = [c] := by
  unfold lst1
  rw [List.length_append, List.length_singleton, Nat.add_sub_cancel, List.drop_left]
theorem last_snoc {a : List Nat} {u : Nat} (h : a.getLast? = some u) : ∃ z, a = z ++ [u] := by
  have : a ≠ [] := fun z => by rw [z] at h; cases h
  rw [List.getLast?_eq_some_getLast this] at h
  have h := Option.some.inj h
  rw [← h]
  exact ⟨_, (List.dropLast_concat_getLast this).symm⟩
theorem lst1_dec (a : List Nat) (u : Nat) : decide (lst1 a = [u]) = decide (a.getLast? = some u) := by
  rw [decide_eq_decide]
  by_cases h : 0 < a.length
  · obtain ⟨z, c, rfl⟩ := snoc_of h
    rw [lst1_snoc, List.getLast?_concat]
    simp
  · have : a = [] := List.eq_nil_of_length_eq_zero (by omega)
    subst this
    simp [lst1]
theorem cut_lst (l : List Nat) : cutS (S l) (some (-1)) none = S (lst1 l) := by
  rw [cut_S, HT.sIx_none]
  have e : HT.sIx l.length 0 (some (-1)) = l.length - 1 := by
    show (if (-1 : Int) < 0 then ((-1 : Int) + (l.length : Int)).toNat else min (-1 : Int).toNat l.length) = l.length - 1
    rw [if_pos (by decide)]
    omega
  rw [e]
  unfold lst1
  rw [List.take_of_length_le]
  simp
def TwAt (H : Hp) (x : V) : Option (List Nat × List Nat) → Prop
  | none => x = .non
  | some y => ∃ u, x = .ref u ∧ H u = some (.tup [.str (S y.1), .str (S y.2)])
theorem TwAt.same {H H' : Hp} {x : V} {o : Option (List Nat × List Nat)} (e : Same H H') (h : TwAt H x o) : TwAt H' x o := by
  cases o with
  | none => exact h
  | some y =>
    obtain ⟨u, h1, h2⟩ := h
    exact ⟨u, h1, e _ _ h2⟩
/-- min of a tuple of ints -/
theorem min_intTuple {prog : Program} {w : World} {A : Around} {s : Shared} {E : Value → Shared → Prop} {l : Addr} {xs : Array (Int × Tok)} {Q : Value → Shared → Prop} (hh : A.handled = none) (hl : s.heap.IsTuple l (intItems xs)) (hne : 0 < xs.size)
    (h : ∀ v h' tk, (intItems xs)[argBest (fun i j => decide (numAt xs i < numAt xs j)) (xs.size - 1)]? = some v → (∀ b o, s.heap.get? b = some o → h'.get? b = some o) → Q v { s with heap := h', toks := tk }) :
    wpAny (model prog w) A (call (.builtin "min") [.ref l]) Q E s := by
  refine call_min_walk (wpAny_pyIter_tuple hl ?_)
  have hls : l < s.heap.objs.size := by
    obtain ⟨o, ho, _⟩ := hl
    exact Heap.lt_size ho
  refine ⟨_, [_, l], [_], _, _, _, _, rfl, Walks.tuple (A := A.in1) hh _ l (Nat.ne_of_lt hls) (intItems xs),
    ⟨⟨_, Heap.get?_push_size _ rfl, rfl, rfl⟩, hl.push _⟩, fun c hc => ?_, by simpa [intItems] using hne, CmpOf.ints_lt (numAt xs) (fun _ _ => intItems_at), fun v h' tk hP hk => ?_⟩
  · show c < (s.heap.push _).objs.size
    rw [Heap.size_push]
    rcases List.mem_cons.mp hc with rfl | hc
    · exact Nat.lt_succ_self _
    · rw [List.mem_singleton.mp hc]
      exact Nat.lt_succ_of_lt hls
  · exact h v h' tk (by simpa [intItems] using hP) fun b o e => hk b o (fun z => absurd (List.mem_singleton.mp z) (Nat.ne_of_lt (Heap.lt_size e))) (Heap.get?_push_of_some _ e)
def rMinT (K : PySem.W.Frag) : List V → Hp → VK → Prop := fun vs H Q => ∃ (a : Addr) (ns : List Int), vs = [V.ref a] ∧ SqT K H a (ns.map V.int) ∧ 0 < ns.length ∧ ∀ m, m ∈ ns → (∀ y, y ∈ ns → m ≤ y) → Q (.int m) H
theorem cr_minT {X : Cx} (hc : X.calm = true) : CallR X (.builtin "min") (rMinT X.K) := by
  intro pins s σ H vs us Q I r h
  obtain ⟨a, ns, rfl, hs, hne, q⟩ := h
  obtain ⟨its, rv, hl, _⟩ := I.tuple hs
  rw [Vals.ref1 r]
  have hi := rv.ints
  obtain ⟨xs, e⟩ := hi.allInts.items
  have hn : numsOf (intItems xs).toList = ns := by rw [← e]; exact hi.numsOf
  rw [nums_intItems] at hn
  subst hn
  have hl' : s.heap.IsTuple a its.toArray := hl
  rw [e] at hl'
  have hsz : 0 < xs.size := by simpa using hne
  refine min_intTuple (I.ok.hd hc) hl' hsz fun v h' tk hv hk => ?_
  obtain ⟨t, rfl⟩ := intItems_at hv
  obtain ⟨h1, h2⟩ := argBest_lt (numAt xs) (xs.size - 1)
  refine ⟨.int _, H, I.kept hk, ⟨_, rfl⟩, q _ ?_ fun a ha => ?_⟩
  · rw [numAt_eq]; exact PySem.getD_mem (by rw [List.length_map, Array.length_toList]; omega)
  · obtain ⟨j, hj, rfl⟩ := mem_getD ha
    rw [List.length_map, Array.length_toList] at hj
    rw [← numAt_eq]; exact h2 j (by omega)
theorem r_minT {K : PySem.W.Frag} {H : Hp} {Q : VK} {a : Addr} {ns : List Int} (hs : SqT K H a (ns.map V.int)) (h0 : 0 < ns.length) (q : ∀ m, m ∈ ns → (∀ y, y ∈ ns → m ≤ y) → Q (.int m) H) : rMinT K [.ref a] H Q := ⟨a, ns, rfl, hs, h0, q⟩
/-- the place of the first so many letters -/
def P (f : Nat → Nat) (n : Nat) : Int := pl (seg f 0 n)
theorem P_succ (f : Nat → Nat) (n : Nat) : P f (n + 1) = pst (P f n) (f n) := by
  unfold P
  rw [← pl_snoc]
  congr 1
  have h : seg f 0 n ++ seg f (0 + n) 1 = seg f 0 (n + 1) := seg_app
  rw [← h]
  congr 1
  simp [seg]
theorem P_zero (f : Nat → Nat) : P f 0 = 0 := rfl
theorem P_nn (f : Nat → Nat) (n : Nat) : 0 ≤ P f n := pl_nn _
theorem P_lt (f : Nat → Nat) (n : Nat) : P f n < 3 ^ n := by
  have := pl_lt (seg f 0 n)
  rwa [seg_len] at this
def ab (x : Int) : Int := if x < 0 then -x else x
/-- how far apart -/
def dst (f g : Nat → Nat) (n : Nat) : Int := ab (P f n - P g n)
theorem ix_ge (p : Int) (c : Nat) : 0 ≤ ((ix p c : Nat) : Int) := by omega
theorem dst_grow (f g : Nat → Nat) (n : Nat) (h : 1 < dst f g n) : 3 * dst f g n ≤ 2 * dst f g (n + 1) := by
  unfold dst at *
  rw [P_succ, P_succ]
  unfold pst
  have h1 := ix_le (P f n) (f n)
  have h2 := ix_le (P g n) (g n)
  generalize ix (P f n) (f n) = a at h1 ⊢
  generalize ix (P g n) (g n) = b at h2 ⊢
  unfold ab at *
  split at h <;> split <;> split <;> omega
theorem dst_mono (f g : Nat → Nat) (n : Nat) (h : 1 < dst f g n) : 1 < dst f g (n + 1) := by
  have := dst_grow f g n h
  omega
theorem dst_same {f g : Nat → Nat} {n : Nat} (h : ∀ i, i < n → f i = g i) : P f n = P g n := by
  unfold P
  congr 1
  exact seg_ext fun i hi => by rw [Nat.zero_add]; exact h i hi
def Fa (c : Nat) : Prop := c = 110 ∨ c = 102 ∨ c = 115
theorem ix_two {p : Int} {c : Nat} (hc : Fa c) (h : ix p c = 2) : (p % 2 = 0 ∧ c = 102) ∨ (p % 2 = 1 ∧ c = 115) := by
  unfold ix at h
  rcases (show p % 2 = 0 ∨ p % 2 = 1 by omega) with e | e
  · rw [if_pos e] at h
    rcases hc with rfl | rfl | rfl
    · exact absurd h (by decide)
    · exact .inl ⟨e, rfl⟩
    · exact absurd h (by decide)
  · rw [if_neg (by omega)] at h
    rcases hc with rfl | rfl | rfl
    · exact absurd h (by decide)
    · exact absurd h (by decide)
    · exact .inr ⟨e, rfl⟩
theorem ix_zero {p : Int} {c : Nat} (hc : Fa c) (h : ix p c = 0) : (p % 2 = 0 ∧ c = 115) ∨ (p % 2 = 1 ∧ c = 102) := by
  unfold ix at h
  rcases (show p % 2 = 0 ∨ p % 2 = 1 by omega) with e | e
  · rw [if_pos e] at h
    rcases hc with rfl | rfl | rfl
    · exact absurd h (by decide)
    · exact absurd h (by decide)
    · exact .inl ⟨e, rfl⟩
  · rw [if_neg (by omega)] at h
    rcases hc with rfl | rfl | rfl
    · exact absurd h (by decide)
    · exact .inr ⟨e, rfl⟩
    · exact absurd h (by decide)
/-- what keeps neighbours -/
theorem near_step {p : Int} {c d : Nat} (hc : Fa c) (hd : Fa d) (h : ab (pst p c - pst (p + 1) d) ≤ 1) : (p % 2 = 0 ∧ c = 102 ∧ d = 102) ∨ (p % 2 = 1 ∧ c = 115 ∧ d = 115) := by
  have h1 := ix_le p c
  have h2 := ix_le (p + 1) d
  have h3 : ix p c = 2 ∧ ix (p + 1) d = 0 := by
    unfold ab pst at h
    split at h <;> omega
  rcases ix_two hc h3.1 with ⟨a, b⟩ | ⟨a, b⟩ <;> rcases ix_zero hd h3.2 with ⟨a', b'⟩ | ⟨a', b'⟩
  · omega
  · exact .inl ⟨a, b, b'⟩
  · exact .inr ⟨a, b, b'⟩
  · omega
/-- neighbours that part in this round: who stands where -/
theorem part_step {p : Int} {c d : Nat} (hc : Fa c) (hd : Fa d) (ne : c ≠ d) (h : ab (pst p c - pst p d) ≤ 1) :
    (pst p d = pst p c + 1 ∨ pst p c = pst p d + 1) ∧ ∀ lo, (lo = pst p c ∨ lo = pst p d) → (pst p c = lo ∧ pst p d = lo + 1 ∨ pst p d = lo ∧ pst p c = lo + 1) →
      (lo % 2 = 0 ∧ c ≠ 102 ∧ d ≠ 102) ∨ (lo % 2 = 1 ∧ c ≠ 115 ∧ d ≠ 115) := by
  have vals : ∀ {c}, Fa c → (p % 2 = 0 ∧ (c = 115 ∧ ix p c = 0 ∨ c = 110 ∧ ix p c = 1 ∨ c = 102 ∧ ix p c = 2)) ∨ (p % 2 = 1 ∧ (c = 102 ∧ ix p c = 0 ∨ c = 110 ∧ ix p c = 1 ∨ c = 115 ∧ ix p c = 2)) := by
    intro c hc
    unfold ix
    rcases (show p % 2 = 0 ∨ p % 2 = 1 by omega) with e | e
    · rw [if_pos e]
      rcases hc with rfl | rfl | rfl <;> simp [e]
    · rw [if_neg (by omega)]
      rcases hc with rfl | rfl | rfl <;> simp [e]
  have v1 := vals hc
  have v2 := vals hd
  unfold ab pst at *
  generalize ix p c = i1 at *
  generalize ix p d = i2 at *
  refine ⟨?_, fun lo h3 h4 => ?_⟩
  · split at h <;> omega
  · split at h <;> omega
/-- the fate that keeps neighbours with this lower place -/
def kp (lo : Int) : Nat := if lo % 2 = 0 then 102 else 115
theorem kp_two (lo : Int) : kp lo = 102 ∨ kp lo = 115 := by unfold kp; split <;> simp
theorem kp_step (lo : Int) : ∃ lo', (∀ q, (q = lo ∨ q = lo + 1) → ∃ q', q' = pst q (kp lo) ∧ (q = lo → q' = lo') ∧ (q = lo + 1 → q' = lo' + 1)) ∧ kp lo' = kp lo := by
  rcases (show lo % 2 = 0 ∨ lo % 2 = 1 by omega) with e | e
  · refine ⟨3 * lo + 2, ?_, ?_⟩
    · rintro q (rfl | rfl)
      · exact ⟨_, rfl, fun _ => by unfold pst ix kp; simp [e], fun h => by omega⟩
      · have e' : ¬ (lo + 1) % 2 = 0 := by omega
        exact ⟨_, rfl, fun h => by omega, fun _ => by unfold pst ix kp; rw [if_pos e, if_neg e']; simp; omega⟩
    · unfold kp
      rw [if_pos e, if_pos (by omega)]
  · have e0 : ¬ lo % 2 = 0 := by omega
    refine ⟨3 * lo + 2, ?_, ?_⟩
    · rintro q (rfl | rfl)
      · exact ⟨_, rfl, fun _ => by unfold pst ix kp; rw [if_neg e0, if_neg e0]; simp, fun h => by omega⟩
      · have e' : (lo + 1) % 2 = 0 := by omega
        exact ⟨_, rfl, fun h => by omega, fun _ => by unfold pst ix kp; rw [if_neg e0, if_pos e']; simp; omega⟩
    · unfold kp
      rw [if_neg e0, if_neg (by omega)]
/-- two rows that stay beside one another from i to n -/
theorem stay_beside {f g : Nat → Nat} (wf : ∀ i, Fa (f i)) (wg : ∀ i, Fa (g i)) {i n : Nat} (hs : ∀ j, j < i → f j = g j) (ne : f i ≠ g i) (hi : i < n) (hd : ∀ m, m ≤ n → dst f g m ≤ 1) :
    ∃ c, (c = 102 ∨ c = 115) ∧ f i ≠ c ∧ g i ≠ c ∧ ∀ j, i < j → j < n → f j = c ∧ g j = c := by
  have hp : P f i = P g i := dst_same hs
  have h1 := hd (i + 1) hi
  have dd : dst f g (i + 1) = ab (pst (P f i) (f i) - pst (P f i) (g i)) := by unfold dst; rw [P_succ, P_succ, ← hp]
  rw [dd] at h1
  obtain ⟨h2, h3⟩ := part_step (wf i) (wg i) ne h1
  obtain ⟨lo, hlo, hlo2⟩ : ∃ lo, (lo = pst (P f i) (f i) ∨ lo = pst (P f i) (g i)) ∧ (pst (P f i) (f i) = lo ∧ pst (P f i) (g i) = lo + 1 ∨ pst (P f i) (g i) = lo ∧ pst (P f i) (f i) = lo + 1) := by
    rcases h2 with h | h
    · exact ⟨_, .inl rfl, .inl ⟨rfl, h⟩⟩
    · exact ⟨_, .inr rfl, .inr ⟨rfl, h⟩⟩
  have h4 := h3 lo hlo hlo2
  refine ⟨kp lo, kp_two lo, ?_, ?_, ?_⟩
  · unfold kp; rcases h4 with ⟨e, a, b⟩ | ⟨e, a, b⟩
    · rw [if_pos e]; exact a
    · rw [if_neg (by omega)]; exact a
  · unfold kp; rcases h4 with ⟨e, a, b⟩ | ⟨e, a, b⟩
    · rw [if_pos e]; exact b
    · rw [if_neg (by omega)]; exact b
  have key : ∀ k, i + 1 + k ≤ n → (∃ lo', kp lo' = kp lo ∧ (P f (i + 1 + k) = lo' ∧ P g (i + 1 + k) = lo' + 1 ∨ P g (i + 1 + k) = lo' ∧ P f (i + 1 + k) = lo' + 1)) ∧ ∀ j, i < j → j < i + 1 + k → f j = kp lo ∧ g j = kp lo := by
    intro k
    induction k with
    | zero =>
      intro _
      refine ⟨⟨lo, rfl, ?_⟩, fun j a b => by omega⟩
      show P f (i + 1) = lo ∧ P g (i + 1) = lo + 1 ∨ P g (i + 1) = lo ∧ P f (i + 1) = lo + 1
      rw [P_succ, P_succ, ← hp]
      exact hlo2
    | succ k ih =>
      intro hk
      obtain ⟨⟨lo', e1, e2⟩, e3⟩ := ih (by omega)
      have h5 := hd (i + 1 + k + 1) (by omega)
      have both : f (i + 1 + k) = kp lo' ∧ g (i + 1 + k) = kp lo' := by
        unfold dst at h5
        rw [P_succ, P_succ] at h5
        rcases e2 with ⟨a, b⟩ | ⟨a, b⟩
        · rw [a, b] at h5
          rcases near_step (wf _) (wg _) h5 with ⟨x, y, z⟩ | ⟨x, y, z⟩
          · unfold kp; rw [if_pos x]; exact ⟨y, z⟩
          · unfold kp; rw [if_neg (by omega)]; exact ⟨y, z⟩
        · rw [a, b] at h5
          have h6 : ab (pst lo' (g (i + 1 + k)) - pst (lo' + 1) (f (i + 1 + k))) ≤ 1 := by
            unfold ab at h5 ⊢
            split at h5 <;> split <;> omega
          rcases near_step (wg _) (wf _) h6 with ⟨x, y, z⟩ | ⟨x, y, z⟩
          · unfold kp; rw [if_pos x]; exact ⟨z, y⟩
          · unfold kp; rw [if_neg (by omega)]; exact ⟨z, y⟩
      refine ⟨?_, fun j a b => ?_⟩
      · obtain ⟨lo2, k1, k2⟩ := kp_step lo'
        refine ⟨lo2, k2.trans e1, ?_⟩
        show P f (i + 1 + k + 1) = lo2 ∧ P g (i + 1 + k + 1) = lo2 + 1 ∨ P g (i + 1 + k + 1) = lo2 ∧ P f (i + 1 + k + 1) = lo2 + 1
        rw [P_succ, P_succ, both.1, both.2]
        rcases e2 with ⟨a, b⟩ | ⟨a, b⟩
        · obtain ⟨q1, r1, r2, r3⟩ := k1 _ (.inl a)
          obtain ⟨q2, s1, s2, s3⟩ := k1 _ (.inr b)
          exact .inl ⟨by rw [← r1]; exact r2 a, by rw [← s1]; exact s3 b⟩
        · obtain ⟨q1, r1, r2, r3⟩ := k1 _ (.inl a)
          obtain ⟨q2, s1, s2, s3⟩ := k1 _ (.inr b)
          exact .inr ⟨by rw [← r1]; exact r2 a, by rw [← s1]; exact s3 b⟩
      · by_cases hj : j = i + 1 + k
        · subst hj
          rw [← e1]
          exact both
        · exact e3 j a (by omega)
  intro j a b
  exact (key (n - (i + 1)) (by omega)).2 j a (by omega)
/-- the third one: what is told of a and b -/
def oth (c x : Nat) : Nat := 327 - c - x
def twn (a b : List Nat) : Option (List Nat × List Nat) :=
  if b = [115] then (if a.getLast? = some 102 then some (a.dropLast ++ [110], [115]) else if a.getLast? = some 110 then some (a.dropLast ++ [102], [115]) else none)
  else if b = [102] then (if a.getLast? = some 115 then some (a.dropLast ++ [110], [102]) else if a.getLast? = some 110 then some (a.dropLast ++ [115], [102]) else none)
  else none
theorem rw_fa {h r : List Nat} (wh : Wd h) (wr : Wd r) (r0 : 0 < r.length) (i : Nat) : Fa (rw h r i) := by
  by_cases hi : i < h.length
  · rw [rw_lt hi, List.getD_eq_getElem?_getD, List.getElem?_eq_getElem hi]
    exact wh _ (List.getElem_mem hi)
  · have hm : (i - h.length) % r.length < r.length := Nat.mod_lt _ r0
    rw [rw_ge (by omega), List.getD_eq_getElem?_getD, List.getElem?_eq_getElem hm]
    exact wr _ (List.getElem_mem hm)
/-- what is told of a row that is c for ever behind a round of another fate -/
theorem least_const {h r a b : List Nat} {i c : Nat} (x : Least h r a b) (hc : ∀ j, i < j → rw h r j = c) (ne : rw h r i ≠ c) : a = seg (rw h r) 0 (i + 1) ∧ b = [c] := by
  have hper : Per (rw h r) (i + 1) 1 := fun j hj => by rw [hc j (by omega), hc (j + 1) (by omega)]
  have hmin : IsMin (rw h r) (i + 1) 1 := ⟨by decide, hper, fun m' p' h0 hp => by
    refine Nat.le_of_not_lt fun hlt => ne ?_
    have := hp i (by omega)
    rw [hc (i + p') (by omega)] at this
    exact this.symm, fun p' h0 _ => h0⟩
  obtain ⟨e1, e2⟩ := x.min.uniq hmin
  have r1 := rw_head a b
  have r2 := rw_ring a b
  rw [x.row, e1] at r1
  rw [x.row, e1, e2] at r2
  refine ⟨r1.symm, ?_⟩
  rw [← r2]
  simp [seg, hc (i + 1) (by omega)]
theorem seg_succ (f : Nat → Nat) (n : Nat) : seg f 0 (n + 1) = seg f 0 n ++ [f n] := by
  have h : seg f 0 n ++ seg f (0 + n) 1 = seg f 0 (n + 1) := seg_app
  rw [← h]
  congr 1
  simp [seg]
/-- twins, by their least forms -/
theorem twn_of {f g : Nat → Nat} (wf : ∀ i, Fa (f i)) (wg : ∀ i, Fa (g i)) {i c : Nat} (hs : ∀ j, j < i → f j = g j) (ne : f i ≠ g i) (hc : c = 102 ∨ c = 115) (n1 : f i ≠ c) (n2 : g i ≠ c) :
    twn (seg f 0 (i + 1)) [c] = some (seg g 0 (i + 1), [c]) := by
  have e : seg f 0 i = seg g 0 i := seg_ext fun j hj => by rw [Nat.zero_add]; exact hs j hj
  rw [seg_succ, seg_succ, e]
  unfold twn
  rw [List.getLast?_concat, List.dropLast_concat]
  have w1 := wf i
  have w2 := wg i
  generalize f i = x at *
  generalize g i = y at *
  rcases hc with rfl | rfl <;> rcases w1 with rfl | rfl | rfl <;> rcases w2 with rfl | rfl | rfl <;> simp at ne n1 n2 ⊢
/-- rows of short heads and rounds that stay beside one another are alike or twins -/
theorem grown {h r h' r' : List Nat} (wh : Wd h) (wr : Wd r) (wh' : Wd h') (wr' : Wd r') (r0 : 0 < r.length) (r0' : 0 < r'.length) {M p n : Nat} (l1 : h.length ≤ M) (l2 : h'.length ≤ M) (l3 : r.length ≤ p) (l4 : r'.length ≤ p)
    (hn : M + 4 * p + 2 ≤ n) (ne : rw h r ≠ rw h' r') (hd : ∀ m, m ≤ n → dst (rw h r) (rw h' r') m ≤ 1) :
    ∃ i c, (c = 102 ∨ c = 115) ∧ (∀ j, j < i → rw h r j = rw h' r' j) ∧ rw h r i ≠ rw h' r' i ∧ rw h r i ≠ c ∧ rw h' r' i ≠ c ∧ (∀ j, i < j → rw h r j = c) ∧ ∀ j, i < j → rw h' r' j = c := by
  have hex : ∃ i, i < M + r.length + r'.length ∧ rw h r i ≠ rw h' r' i := by
    refine Classical.byContradiction fun z => ne ?_
    refine fine_wilf ((rw_per h r).mono l1) ((rw_per h' r').mono l2) r0 r0' fun i hi => ?_
    exact Classical.byContradiction fun y => z ⟨i, hi, y⟩
  obtain ⟨i0, hi0, hne⟩ := hex
  obtain ⟨i, hi, hl⟩ := least_ex (P := fun i => rw h r i ≠ rw h' r' i) i0 hne
  have hs : ∀ j, j < i → rw h r j = rw h' r' j := fun j hj => Classical.byContradiction fun z => by
    have := hl j z
    omega
  have hii : i < M + 2 * p := by
    have := hl i0 hne
    omega
  obtain ⟨c, c1, c2, c3, c4⟩ := stay_beside (rw_fa wh wr r0) (rw_fa wh' wr' r0') hs hi (n := n) (by omega) hd
  have ext : ∀ (h r : List Nat), 0 < r.length → h.length ≤ M → r.length ≤ p → (∀ j, i < j → j < n → rw h r j = c) → ∀ j, i < j → rw h r j = c := by
    intro h r r0 l1 l3 hc j
    induction j using Nat.strongRecOn with
    | _ j ih =>
      intro hj
      by_cases hjn : j < n
      · exact hc j hj hjn
      · have := rw_per h r (j - r.length) (by omega)
        rw [show j - r.length + r.length = j by omega] at this
        rw [this]
        exact ih _ (by omega) (by omega)
  exact ⟨i, c, c1, hs, hi, c2, c3, ext h r r0 l1 l3 fun j a b => (c4 j a b).1, ext h' r' r0' l2 l4 fun j a b => (c4 j a b).2⟩
/-- twins stay beside one another -/
theorem twins_near {f g : Nat → Nat} {i c : Nat} (wf : ∀ i, Fa (f i)) (wg : ∀ i, Fa (g i)) (hs : ∀ j, j < i → f j = g j) (hc : c = 102 ∨ c = 115) (ne : f i ≠ g i) (n1 : f i ≠ c) (n2 : g i ≠ c) (h1 : ∀ j, i < j → f j = c) (h2 : ∀ j, i < j → g j = c) :
    ∀ m, dst f g m ≤ 1 ∧ (i < m → dst f g m = 1) := by
  have hp : P f i = P g i := dst_same hs
  have key : ∀ k, ∃ lo, kp lo = c ∧ (P f (i + 1 + k) = lo ∧ P g (i + 1 + k) = lo + 1 ∨ P g (i + 1 + k) = lo ∧ P f (i + 1 + k) = lo + 1) := by
    intro k
    induction k with
    | zero =>
      show ∃ lo, kp lo = c ∧ (P f (i + 1) = lo ∧ P g (i + 1) = lo + 1 ∨ P g (i + 1) = lo ∧ P f (i + 1) = lo + 1)
      rw [P_succ, P_succ, ← hp]
      have w1 := wf i
      have w2 := wg i
      generalize f i = x at *
      generalize g i = y at *
      generalize P f i = p
      unfold pst ix kp
      rcases (show p % 2 = 0 ∨ p % 2 = 1 by omega) with e | e
      · rw [if_pos e, if_pos e]
        rcases hc with rfl | rfl <;> rcases w1 with rfl | rfl | rfl <;> rcases w2 with rfl | rfl | rfl <;> simp at ne n1 n2 ⊢
        · exact ⟨3 * p, by omega, by omega⟩
        · exact ⟨3 * p, by omega, by omega⟩
        · exact ⟨3 * p + 1, by omega, by omega⟩
        · exact ⟨3 * p + 1, by omega, by omega⟩
      · have e' : ¬ p % 2 = 0 := by omega
        rw [if_neg e', if_neg e']
        rcases hc with rfl | rfl <;> rcases w1 with rfl | rfl | rfl <;> rcases w2 with rfl | rfl | rfl <;> simp at ne n1 n2 ⊢
        · exact ⟨3 * p + 1, by omega, by omega⟩
        · exact ⟨3 * p + 1, by omega, by omega⟩
        · exact ⟨3 * p, by omega, by omega⟩
        · exact ⟨3 * p, by omega, by omega⟩
    | succ k ih =>
      obtain ⟨lo, e1, e2⟩ := ih
      obtain ⟨lo2, k1, k2⟩ := kp_step lo
      refine ⟨lo2, k2.trans e1, ?_⟩
      show P f (i + 1 + k + 1) = lo2 ∧ P g (i + 1 + k + 1) = lo2 + 1 ∨ P g (i + 1 + k + 1) = lo2 ∧ P f (i + 1 + k + 1) = lo2 + 1
      rw [P_succ, P_succ, h1 _ (by omega), h2 _ (by omega), ← e1]
      rcases e2 with ⟨a, b⟩ | ⟨a, b⟩
      · obtain ⟨q1, r1, r2, r3⟩ := k1 _ (.inl a)
        obtain ⟨q2, s1, s2, s3⟩ := k1 _ (.inr b)
        exact .inl ⟨by rw [← r1]; exact r2 a, by rw [← s1]; exact s3 b⟩
      · obtain ⟨q1, r1, r2, r3⟩ := k1 _ (.inl a)
        obtain ⟨q2, s1, s2, s3⟩ := k1 _ (.inr b)
        exact .inr ⟨by rw [← r1]; exact r2 a, by rw [← s1]; exact s3 b⟩
  have hgt : ∀ m, i < m → dst f g m = 1 := fun m hm => by
    obtain ⟨k, rfl⟩ : ∃ k, m = i + 1 + k := ⟨m - (i + 1), by omega⟩
    obtain ⟨lo, _, e2⟩ := key k
    unfold dst ab
    rcases e2 with ⟨a, b⟩ | ⟨a, b⟩ <;> rw [a, b] <;> split <;> omega
  intro m
  refine ⟨?_, hgt m⟩
  by_cases hm : i < m
  · have := hgt m hm
    omega
  · unfold dst
    rw [dst_same (f := f) (g := g) (n := m) fun j hj => hs j (by omega), Int.sub_self]
    decide
/-- what a told twin is -/
theorem twn_some {a b : List Nat} {y : List Nat × List Nat} (e : twn a b = some y) : ∃ (z : List Nat) (u v c : Nat), a = z ++ [u] ∧ b = [c] ∧ y = (z ++ [v], [c]) ∧ (c = 102 ∨ c = 115) ∧ u ≠ v ∧ u ≠ c ∧ v ≠ c ∧ Fa u ∧ Fa v := by
  unfold twn at e
  have go : ∀ u, a.getLast? = some u → a = a.dropLast ++ [u] := fun u h => by
    have : a ≠ [] := fun z => by rw [z] at h; cases h
    rw [List.getLast?_eq_some_getLast this] at h
    have h := Option.some.inj h
    rw [← h]
    exact (List.dropLast_concat_getLast this).symm
  split at e
  · rename_i hb
    split at e
    · rename_i h
      exact ⟨_, 102, 110, 115, go _ h, hb, (Option.some.inj e).symm, by decide, by decide, by decide, by decide, by unfold Fa; decide, by unfold Fa; decide⟩
    · split at e
      · rename_i h
        exact ⟨_, 110, 102, 115, go _ h, hb, (Option.some.inj e).symm, by decide, by decide, by decide, by decide, by unfold Fa; decide, by unfold Fa; decide⟩
      · cases e
  · split at e
    · rename_i hb
      split at e
      · rename_i h
        exact ⟨_, 115, 110, 102, go _ h, hb, (Option.some.inj e).symm, by decide, by decide, by decide, by decide, by unfold Fa; decide, by unfold Fa; decide⟩
      · split at e
        · rename_i h
          exact ⟨_, 110, 115, 102, go _ h, hb, (Option.some.inj e).symm, by decide, by decide, by decide, by decide, by unfold Fa; decide, by unfold Fa; decide⟩
        · cases e
    · cases e
/-- a row that is so many letters, and then one for ever -/
theorem rw_snoc (z : List Nat) (u c : Nat) : (∀ j, j < z.length → rw (z ++ [u]) [c] j = z.getD j 0) ∧ rw (z ++ [u]) [c] z.length = u ∧ ∀ j, z.length < j → rw (z ++ [u]) [c] j = c := by
  refine ⟨fun j hj => ?_, ?_, fun j hj => ?_⟩
  · rw [rw_lt (by simp; omega), List.getD_eq_getElem?_getD, List.getD_eq_getElem?_getD, List.getElem?_append_left hj]
  · rw [rw_lt (by simp), List.getD_eq_getElem?_getD, List.getElem?_append_right (Nat.le_refl _)]
    simp
  · rw [rw_ge (by simp; omega)]
    simp [Nat.mod_one]
/-- a small loss that stands at t -/
def Lo (H : Hp) (t : Addr) (h r : List Nat) : Prop := H t = some (.tup [.str (S h), .str (S r)]) ∧ Wd h ∧ Wd r ∧ h.length ≤ 14 ∧ r.length ≤ 3 ∧ 0 < r.length
theorem Lo.same {H H' : Hp} {t : Addr} {h r : List Nat} (x : Lo H t h r) (e : Same H H') : Lo H' t h r := ⟨e _ _ x.1, x.2⟩
theorem tup_ne {H : Hp} {t a : Addr} {xs : List V} {c : Int} (h : H t = some (.tup xs)) (p : PotAt H a c) : t ≠ a := by
  obtain ⟨own, sd, n, h1, _⟩ := p
  intro z
  subst z
  rw [h] at h1
  cases h1
theorem Lo.but {H H' : Hp} {t a : Addr} {h r : List Nat} {c : Int} (x : Lo H t h r) (b : But a H H') (p : PotAt H a c) : Lo H' t h r := ⟨b _ _ (tup_ne x.1 p) x.1, x.2⟩
theorem wd_segF {f : Nat → Nat} (w : ∀ i, Fa (f i)) (a n : Nat) : Wd (seg f a n) := fun c hc => by
  unfold seg at hc
  obtain ⟨j, _, e⟩ := List.mem_map.mp hc
  rw [← e]
  exact w _
theorem dst_nn (f g : Nat → Nat) (n : Nat) : 0 ≤ dst f g n := by unfold dst ab; split <;> omega
theorem dst_lt (f g : Nat → Nat) (n : Nat) : dst f g n < 3 ^ n := by
  have h1 := P_lt f n
  have h2 := P_lt g n
  have h3 := P_nn f n
  have h4 := P_nn g n
  unfold dst ab
  split <;> omega
theorem pow3_le {i n : Nat} (h : i ≤ n) : (3 : Int) ^ i ≤ 3 ^ n := by
  obtain ⟨k, rfl⟩ := Nat.exists_eq_add_of_le h
  rw [Int.pow_add]
  have h1 := pow3_pos k
  have h2 := pow3_pos i
  have := Int.mul_le_mul_of_nonneg_left (show (1 : Int) ≤ 3 ^ k by omega) (Int.le_of_lt h2)
  omega
theorem acc_ints {acc : List V} {n : Nat} {g : Nat → Int} (hl : acc.length = n) (h : ∀ (i : Nat) (v : V), acc[i]? = some v → v = .int (g i)) : acc = (List.range n).map fun i => V.int (g i) := by
  subst hl
  refine List.ext_getElem? fun i => ?_
  by_cases hi : i < acc.length
  · rw [List.getElem?_map, List.getElem?_range hi, List.getElem?_eq_getElem hi]
    exact congrArg some (h i _ (List.getElem?_eq_getElem hi))
  · rw [List.getElem?_eq_none (by omega), List.getElem?_eq_none (by rw [List.length_map, List.length_range]; omega)]
theorem r_maxL {K : PySem.W.Frag} {H : Hp} {Q : VK} {a : Addr} {ns : List Int} (hs : SqL K H a (ns.map V.int)) (h0 : 0 < ns.length) (q : ∀ m, m ∈ ns → (∀ y, y ∈ ns → y ≤ m) → Q (.int m) H) : rMax K [.ref a] H Q := ⟨a, ns, rfl, hs, h0, q⟩
theorem cut_one (l : List V) : cutV l (some 1) none = l.drop 1 := by
  unfold cutV
  rw [HT.sIx_none]
  by_cases h : 1 ≤ l.length
  · rw [show HT.sIx l.length 0 (some 1) = 1 from sIx_le h]
    exact List.take_of_length_le (by rw [List.length_drop]; omega)
  · have : l = [] := List.eq_nil_of_length_eq_zero (by omega)
    subst this
    rfl
theorem Wd.left {a b : List Nat} (h : Wd (a ++ b)) : Wd a := fun c hc => h c (List.mem_append.mpr (.inl hc))
theorem Wd.right {a b : List Nat} (h : Wd (a ++ b)) : Wd b := fun c hc => h c (List.mem_append.mpr (.inr hc))
/-- == of what is told as a twin, and a loss -/
theorem r_eqTw {K : PySem.W.Frag} {H : Hp} {Q : VK} {x : V} {u : Addr} {o : Option (List Nat × List Nat)} {c d : List Nat} (h1 : TwAt H x o) (h2 : H u = some (.tup [.str (S c), .str (S d)])) (ho : ∀ y, o = some y → Wd y.1 ∧ Wd y.2) (oc : Wd c) (od : Wd d)
    (q : Q (.bl (decide (o = some (c, d)))) H) : rEqD K x (.ref u) H Q := by
  cases o with
  | none =>
    obtain rfl : x = .non := h1
    refine ⟨_, _, .non, .tup (SqT.of h2) (.cons (.str _) (.cons (.str _) .nil)), rfl, ?_, ?_⟩
    · unfold SeqAt.shaped
      simp only [PyData.canLay0, PyData.canLayAll0, ok_S oc, ok_S od, PyData.depth, PyData.depthAll]
      rfl
    · rw [decide_eq_false (fun z => nomatch z)] at q
      exact q
  | some y =>
    obtain ⟨u', rfl, h3⟩ := h1
    obtain ⟨w1, w2⟩ := ho y rfl
    refine r_eqSS (SqT.of h3) (SqT.of h2) w1 w2 oc od ?_
    rw [show decide (y.1 = c ∧ y.2 = d) = decide (some y = some (c, d)) from decide_eq_decide.mpr ⟨fun z => congrArg some (Prod.ext z.1 z.2), fun z => ⟨congrArg Prod.fst (Option.some.inj z), congrArg Prod.snd (Option.some.inj z)⟩⟩]
    exact q
theorem twn_wd {a b : List Nat} (wa : Wd a) (wb : Wd b) {y : List Nat × List Nat} (e : twn a b = some y) : Wd y.1 ∧ Wd y.2 := by
  obtain ⟨z, p1, p2, p3, rfl, rfl, rfl, _, _, _, _, _, fa2⟩ := twn_some e
  exact ⟨wa.left.app fun c hc => by rw [List.mem_singleton.mp hc]; exact fa2, wb⟩
theorem least_ne {h r z : List Nat} {u c : Nat} (x : Least h r (z ++ [u]) [c]) : u ≠ c := fun e => by
  subst e
  obtain ⟨s1, s2, s3⟩ := rw_snoc z u u
  rw [x.row] at s2 s3
  have hper : Per (rw h r) z.length 1 := fun j hj => by
    rw [s3 (j + 1) (by omega)]
    by_cases e : j = z.length
    · rw [e, s2]
    · rw [s3 j (by omega)]
  have := x.min.head z.length 1 (by decide) hper
  simp at this
  omega
/-- what is told as twin is in its least form -/
theorem least_twn {z : List Nat} {v c : Nat} (h : v ≠ c) : Least (z ++ [v]) [c] (z ++ [v]) [c] := by
  obtain ⟨s1, s2, s3⟩ := rw_snoc z v c
  refine ⟨rfl, ?_⟩
  have hper := rw_per (z ++ [v]) [c]
  refine ⟨by simp, hper, fun m' p' h0 hp => ?_, fun p' h0 _ => by simp; omega⟩
  refine Nat.le_of_not_lt fun hlt => h ?_
  rw [List.length_append, List.length_singleton] at hlt
  have := hp z.length (by omega)
  rw [s3 _ (by omega), s2] at this
  exact this.symm
theorem twn_sym {a b a' b' : List Nat} (e : twn a b = some (a', b')) : twn a' b' = some (a, b) := by
  obtain ⟨z, u, v, c, rfl, rfl, e2, hc, n1, n2, n3, f1, f2⟩ := twn_some e
  obtain ⟨rfl, rfl⟩ := Prod.mk.inj e2
  unfold twn
  rw [List.getLast?_concat, List.dropLast_concat]
  rcases hc with rfl | rfl <;> rcases f1 with rfl | rfl | rfl <;> rcases f2 with rfl | rfl | rfl <;> simp at n1 n2 n3 ⊢
theorem twn_irr {a b : List Nat} : twn a b ≠ some (a, b) := fun e => by
  obtain ⟨z, u, v, c, rfl, rfl, e2, hc, n1, _⟩ := twn_some e
  have := (Prod.mk.inj e2).1
  simp at this
  exact n1 this
/-- one letter put in between head and round: no twin -/
theorem near_none {h r a b a' b' : List Nat} {x : Nat} (r0 : 0 < r.length) (l1 : Least h r a b) (l2 : Least (h ++ [x]) r a' b') : twn a b ≠ some (a', b') := fun e => by
  obtain ⟨z, u, v, c, rfl, rfl, e2, hc, n1, n2, n3, _, _⟩ := twn_some e
  obtain ⟨rfl, rfl⟩ := Prod.mk.inj e2
  obtain ⟨s1, s2, s3⟩ := rw_snoc z u c
  obtain ⟨t1, t2, t3⟩ := rw_snoc z v c
  rw [l1.row] at s1 s2 s3
  rw [l2.row] at t1 t2 t3
  by_cases hz : z.length < h.length
  · rw [rw_lt hz] at s2
    rw [rw_lt (by simp; omega), List.getD_eq_getElem?_getD, List.getElem?_append_left hz, ← List.getD_eq_getElem?_getD, s2] at t2
    exact n1 t2
  · have := rw_per h r z.length (by omega)
    rw [s3 _ (by omega), s2] at this
    exact n2 this.symm
end Tf

set_option Elab.async false
set_option linter.all false
set_option maxRecDepth 100000
set_option maxHeartbeats 4000000
set_option pp.maxSteps 400
set_option exponentiation.threshold 4000
local macro_rules | `(tactic| walk_at "rr") => `(tactic| with_reducible first
  | refine Tf.r_seq ?_ | refine Tf.r_asg ?_ | refine Tf.r_name ?_ | refine Tf.r_ret ?_ | refine Tf.r_drop ?_ | refine Tf.r_next ?_ | refine Tf.r_ifS ?_ | refine Tf.r_op ?_ | refine Tf.r_un ?_
  | refine Tf.r_c ?_ | refine Tf.r_I0 ?_ | refine Tf.r_U ?_ | refine Tf.r_cb ?_ | refine Tf.r_cons ?_ | refine Tf.r_nil ?_ | refine Tf.r_call ?_ | refine Tf.r_callN ?_ | refine Tf.r_test ?_ | refine Tf.r_B ?_
  | refine Tf.r_k ?_ | refine Tf.r_and ?_ | refine Tf.r_or ?_ | refine Tf.r_not ?_ | refine Tf.r_andV ?_ | refine Tf.r_orV ?_ | refine Tf.r_notV ?_ | refine Tf.r_if ?_ | refine Tf.r_chain ?_ | refine Tf.r_tup ?_
  | refine Tf.r_lst ?_ | refine Tf.r_par ?_ | refine Tf.r_sl ?_ | refine Tf.r_nopart ?_ | refine Tf.r_part ?_ | refine Tf.r_i ?_ | refine Tf.r_int ?_ | refine Tf.r_intb ?_ | refine Tf.r_isT ?_ | refine Tf.r_noT ?_ | refine Tf.r_isN ?_ | refine Tf.r_notN ?_ | refine Tf.r_inC ?_ | refine Tf.r_abs ?_ | refine Tf.r_max2 ?_ | refine Tf.r_min2 ?_
  | refine Tf.r_for ?_ | refine Tf.r_iStr ?_ | refine Tf.r_iList ?_ | refine Tf.r_iTup ?_ | refine Tf.r_tM1 ?_ | refine Tf.r_lc ?_ | refine Tf.r_yes ?_ | refine Tf.r_revS ?_ | refine Tf.r_notB ?_ | refine Tf.r_isB ?_ | refine Tf.r_iRng1 ?_ | refine Tf.r_iZip ?_ | refine Tf.r_iRng2 ?_ | refine Tf.r_then ?_ | refine Tf.r_gSub ?_ | refine Tf.r_lstRg ?_ | refine Tf.r_rg1 ?_ | refine Tf.r_gCons ?_ | refine Tf.r_gNil ?_ | refine Tf.r_nt ?_ | refine Tf.r_nf ?_ | refine Tf.r_true ?_ | refine Tf.r_false ?_)
local macro_rules | `(tactic| walk_at "rv") => `(tactic| ((with_reducible refine Tf.r_var (v := ?v) ?h ?_); (case' h => exact rfl)))
local macro_rules | `(tactic| walk_at "re") => `(tactic| first
  | ((with_reducible refine Tf.r_eq ?h ?_); (case' h => exact rfl)) | ((with_reducible refine Tf.r_ne ?h ?_); (case' h => exact rfl)))
local macro_rules | `(tactic| walk_at "ri") => `(tactic| first
  | ((with_reducible refine Tf.r_isiS (b := false) ?h ?_); (case' h => (show L2.kitB _ _ = some _; decide +kernel)))
  | ((with_reducible refine Tf.r_isiS (b := true) ?h ?_); (case' h => (show L2.kitB _ _ = some _; decide +kernel))))
local macro_rules | `(tactic| walk_at "r") => `(tactic| repeat (first | walk_at "rr" | walk_at "rv" | walk_at "re" | walk_at "ri"))
local macro_rules | `(tactic| walk_at "rs") => `(tactic| repeat (with_reducible first | refine Tf.r_seq ?_ | refine Tf.r_asg ?_ | refine Tf.r_name ?_ | refine Tf.r_next ?_))
local macro_rules | `(tactic| walk_at "rq") => `(tactic| with_reducible refine Tf.r_seq ?_)

namespace K08
open PySem PySem.Spec PyProof.Rows L2 Tf
def top (i : Nat) : Stmt := PySem.Challenge.pw_twofarplayers_k08_whole_numbers_by_heari.main.body.getD i (.Pass ⟨0, 0, 0, 0⟩)
abbrev s_is_made_of_fates : Stmt := top 6
theorem sc_is_made_of_fates : FnScope ["value", "sign"] ["value"] (defScope s_is_made_of_fates) := ⟨rfl, rfl, rfl, by decide +kernel, rfl, by decide +kernel, by decide +kernel⟩
abbrev s_is_word : Stmt := top 7
theorem sc_is_word : FnScope ["value"] ["value"] (defScope s_is_word) := ⟨rfl, rfl, rfl, by decide +kernel, rfl, by decide +kernel, by decide +kernel⟩
abbrev s_need_word : Stmt := top 8
theorem sc_need_word : FnScope ["value"] ["value"] (defScope s_need_word) := ⟨rfl, rfl, rfl, by decide +kernel, rfl, by decide +kernel, by decide +kernel⟩
abbrev s_place_behind : Stmt := top 11
theorem sc_place_behind : FnScope ["at", "fate"] ["at", "fate"] (defScope s_place_behind) := ⟨rfl, rfl, rfl, by decide +kernel, rfl, by decide +kernel, by decide +kernel⟩
abbrev s_places_along : Stmt := top 12
theorem sc_places_along : FnScope ["word", "places", "fate"] ["word"] (defScope s_places_along) := ⟨rfl, rfl, rfl, by decide +kernel, rfl, by decide +kernel, by decide +kernel⟩
abbrev s_place_of : Stmt := top 13
theorem sc_place_of : FnScope ["word"] ["word"] (defScope s_place_of) := ⟨rfl, rfl, rfl, by decide +kernel, rfl, by decide +kernel, by decide +kernel⟩
abbrev s_numbers_at : Stmt := top 14
theorem sc_numbers_at : FnScope ["at"] ["at"] (defScope s_numbers_at) := ⟨rfl, rfl, rfl, by decide +kernel, rfl, by decide +kernel, by decide +kernel⟩
abbrev s_place : Stmt := top 15
theorem sc_place : FnScope ["word"] ["word"] (defScope s_place) := ⟨rfl, rfl, rfl, by decide +kernel, rfl, by decide +kernel, by decide +kernel⟩
abbrev s_numbers : Stmt := top 16
theorem sc_numbers : FnScope ["word"] ["word"] (defScope s_numbers) := ⟨rfl, rfl, rfl, by decide +kernel, rfl, by decide +kernel, by decide +kernel⟩
abbrev s_Lpot : Stmt := top 18
theorem sc_Lpot : FnScope ["script", "at", "cell", "own", "small"] ["script", "at"] (defScope s_Lpot) := ⟨rfl, rfl, rfl, by decide +kernel, rfl, by decide +kernel, by decide +kernel⟩
abbrev s_Ltake : Stmt := top 19
theorem sc_Ltake : FnScope ["pot", "upto", "prime", "blend", "digit"] ["pot", "upto"] (defScope s_Ltake) := ⟨rfl, rfl, rfl, by decide +kernel, rfl, by decide +kernel, by decide +kernel⟩
abbrev s_Lof : Stmt := top 20
theorem sc_Lof : FnScope ["pot", "some"] ["pot", "some"] (defScope s_Lof) := ⟨rfl, rfl, rfl, by decide +kernel, rfl, by decide +kernel, by decide +kernel⟩
abbrev s_Lcells : Stmt := top 21
theorem sc_Lcells : FnScope ["script", "most"] ["script", "most"] (defScope s_Lcells) := ⟨rfl, rfl, rfl, by decide +kernel, rfl, by decide +kernel, by decide +kernel⟩
abbrev s_Lis : Stmt := top 23
theorem sc_Lis : FnScope ["told", "due", "is_fit", "one", "other"] ["told", "due"] (defScope s_Lis) := ⟨rfl, rfl, rfl, by decide +kernel, rfl, by decide +kernel, by decide +kernel⟩
abbrev s_Lis_int : Stmt := top 22
theorem sc_Lis_int : FnScope ["value", "low", "high"] ["value", "low", "high"] (defScope s_Lis_int) := ⟨rfl, rfl, rfl, by decide +kernel, rfl, by decide +kernel, by decide +kernel⟩
abbrev s_Lpower : Stmt := top 24
theorem sc_Lpower : FnScope ["many", "found", "lap"] ["many"] (defScope s_Lpower) := ⟨rfl, rfl, rfl, by decide +kernel, rfl, by decide +kernel, by decide +kernel⟩
abbrev s_Lheard_numbers : Stmt := top 25
theorem sc_Lheard_numbers : FnScope ["word", "letter", "first", "second", "ahead"] ["word"] (defScope s_Lheard_numbers) := ⟨rfl, rfl, rfl, by decide +kernel, rfl, by decide +kernel, by decide +kernel⟩
abbrev s_Lword : Stmt := top 26
theorem sc_Lword : FnScope ["pot", "many", "letter", "word", "way", "at", "lap"] ["pot"] (defScope s_Lword) := ⟨rfl, rfl, rfl, by decide +kernel, rfl, by decide +kernel, by decide +kernel⟩
abbrev s_Lis_right : Stmt := top 27
theorem sc_Lis_right : FnScope ["word", "its", "first", "second"] ["word"] (defScope s_Lis_right) := ⟨rfl, rfl, rfl, by decide +kernel, rfl, by decide +kernel, by decide +kernel⟩
abbrev s_Lright : Stmt := top 28
theorem sc_Lright : FnScope ["pot", "lap"] ["pot"] (defScope s_Lright) := ⟨rfl, rfl, rfl, by decide +kernel, rfl, by decide +kernel, by decide +kernel⟩
abbrev s_law : Stmt := top 29
theorem sc_law : FnScope ["script", "at"] ["script"] (defScope s_law) := ⟨rfl, rfl, rfl, by decide +kernel, rfl, by decide +kernel, by decide +kernel⟩
structure Txt (K : PySem.W.Frag) (mg : Str → Option Value) : Prop where
  d_is_made_of_fates : ∃ fd, FnP K "is_made_of_fates" s_is_made_of_fates (He.ga K "is_made_of_fates") fd
  g_is_made_of_fates : mg "is_made_of_fates" = some (.ref (He.ga K "is_made_of_fates"))
  d_is_word : ∃ fd, FnP K "is_word" s_is_word (He.ga K "is_word") fd
  g_is_word : mg "is_word" = some (.ref (He.ga K "is_word"))
  d_need_word : ∃ fd, FnP K "need_word" s_need_word (He.ga K "need_word") fd
  g_need_word : mg "need_word" = some (.ref (He.ga K "need_word"))
  d_place_behind : ∃ fd, FnP K "place_behind" s_place_behind (He.ga K "place_behind") fd
  g_place_behind : mg "place_behind" = some (.ref (He.ga K "place_behind"))
  d_places_along : ∃ fd, FnP K "places_along" s_places_along (He.ga K "places_along") fd
  g_places_along : mg "places_along" = some (.ref (He.ga K "places_along"))
  d_place_of : ∃ fd, FnP K "place_of" s_place_of (He.ga K "place_of") fd
  g_place_of : mg "place_of" = some (.ref (He.ga K "place_of"))
  d_numbers_at : ∃ fd, FnP K "numbers_at" s_numbers_at (He.ga K "numbers_at") fd
  g_numbers_at : mg "numbers_at" = some (.ref (He.ga K "numbers_at"))
  d_place : ∃ fd, FnP K "place" s_place (He.ga K "place") fd
  g_place : mg "place" = some (.ref (He.ga K "place"))
  d_numbers : ∃ fd, FnP K "numbers" s_numbers (He.ga K "numbers") fd
  g_numbers : mg "numbers" = some (.ref (He.ga K "numbers"))
  d_Lpot : ∃ fd, FnP K "_law_pot" s_Lpot (He.ga K "_law_pot") fd
  g__law_pot : mg "_law_pot" = some (.ref (He.ga K "_law_pot"))
  d_Ltake : ∃ fd, FnP K "_law_take" s_Ltake (He.ga K "_law_take") fd
  g__law_take : mg "_law_take" = some (.ref (He.ga K "_law_take"))
  d_Lof : ∃ fd, FnP K "_law_of" s_Lof (He.ga K "_law_of") fd
  g__law_of : mg "_law_of" = some (.ref (He.ga K "_law_of"))
  d_Lcells : ∃ fd, FnP K "_law_cells" s_Lcells (He.ga K "_law_cells") fd
  g__law_cells : mg "_law_cells" = some (.ref (He.ga K "_law_cells"))
  d_Lis : ∃ fd, FnP K "_law_is" s_Lis (He.ga K "_law_is") fd
  g__law_is : mg "_law_is" = some (.ref (He.ga K "_law_is"))
  d_Lis_int : ∃ fd, FnP K "_law_is_int" s_Lis_int (He.ga K "_law_is_int") fd
  g__law_is_int : mg "_law_is_int" = some (.ref (He.ga K "_law_is_int"))
  d_Lpower : ∃ fd, FnP K "_law_power" s_Lpower (He.ga K "_law_power") fd
  g__law_power : mg "_law_power" = some (.ref (He.ga K "_law_power"))
  d_Lheard_numbers : ∃ fd, FnP K "_law_heard_numbers" s_Lheard_numbers (He.ga K "_law_heard_numbers") fd
  g__law_heard_numbers : mg "_law_heard_numbers" = some (.ref (He.ga K "_law_heard_numbers"))
  d_Lword : ∃ fd, FnP K "_law_word" s_Lword (He.ga K "_law_word") fd
  g__law_word : mg "_law_word" = some (.ref (He.ga K "_law_word"))
  d_Lis_right : ∃ fd, FnP K "_law_is_right" s_Lis_right (He.ga K "_law_is_right") fd
  g__law_is_right : mg "_law_is_right" = some (.ref (He.ga K "_law_is_right"))
  d_Lright : ∃ fd, FnP K "_law_right" s_Lright (He.ga K "_law_right") fd
  g__law_right : mg "_law_right" = some (.ref (He.ga K "_law_right"))
  d_law : ∃ fd, FnP K "law" s_law (He.ga K "law") fd
  g_law : mg "law" = some (.ref (He.ga K "law"))
  c_FATES : ∃ t, mg "FATES" = some (.str "nfs" t)
  c_MOST_FATES : ∃ t, mg "MOST_FATES" = some (.int 200 t)
  c_BEHIND : mg "BEHIND" = some (.ref (He.ga K "BEHIND"))
  t_BEHIND : ∀ H : Hp, SqT K H (He.ga K "BEHIND") ([.str (S [115, 110, 102]), .str (S [102, 110, 115])] : List V)
  z_abs : mg "abs" = none
  z_all : mg "all" = none
  z_bool : mg "bool" = none
  z_int : mg "int" = none
  z_isinstance : mg "isinstance" = none
  z_len : mg "len" = none
  z_list : mg "list" = none
  z_max : mg "max" = none
  z_min : mg "min" = none
  z_range : mg "range" = none
  z_str : mg "str" = none
  z_sum : mg "sum" = none
  z_tuple : mg "tuple" = none
  z_type : mg "type" = none
  z_zip : mg "zip" = none
section
variable {P : Program} {w : World} {K : PySem.W.Frag} {mg : Str → Option Value} {base : Heap}
def kg_numbers_0_word {α : Type} (us ws : List α) : List α := ((ws.drop 0).take 1)
theorem kb_numbers_0_word {f : Addr} {fd : FuncData} (D : FnP K "numbers" s_numbers f fd) : KBn K fd ["word"] 0 ["word"] (fun us ws => kg_numbers_0_word us ws) (fun vs zs => kg_numbers_0_word vs zs) :=
  kbN D 0 ["word"] (fun us ws => kg_numbers_0_word us ws) (fun {vs zs us ws} r1 r2 => ((r2.drop 0).take 1))
    (fun _ _ _ _ _ _ us ws h1 h2 => match us, ws, h1, h2 with | [], [_], _, _ => rfl)
def sp_is_made_of_fates (K : PySem.W.Frag) : Sp := fun vs H Q _ => ∃ l : List Nat, vs = [.str (S l)] ∧ Wd l ∧ l.length ≤ 1000000 ∧ ∀ H', Same H H' → Q (.bl true) H'
theorem ok_is_made_of_fates (T : Txt K mg) : Ok P w K mg base CX0 (1) "is_made_of_fates" s_is_made_of_fates ["value"] (sp_is_made_of_fates K) := by
  obtain ⟨fd, D⟩ := T.d_is_made_of_fates
  refine ⟨⟨_, fd, T.g_is_made_of_fates, D, D.bindsN (fun _ _ _ _ _ _ us hl => match us, hl with | [_], _ => rfl), ?_⟩⟩
  refine D.ok sc_is_made_of_fates (fun vs H Q E h => ?_) (fun cdv A outer s H vs Q E hr h => ?_)
  · obtain ⟨l, rfl, hw, hl, q⟩ := h
    rfl
  · obtain ⟨l, rfl, hw, hl, q⟩ := h
    refine ⟨_, PSs.nox (pss_one (ps_ret (pe_and (pe_cmpR o_isT (pe_callTy call_type1 (by rfl) T.z_type (by decide +kernel) (pa_cons (pv 0) pa_nil)) (pe_bltn (v := .ty "str") (by rfl) T.z_str (by decide +kernel) rfl) (nomark _)) (pe_one (pe_callB (cr_all rfl) (by rfl) T.z_all (by decide +kernel) (pa_cons (pe_lc (own := [("sign", 1)]) (g := gName 1) (tt := tYes) rfl sc_is_made_of_fates.nd (pi_str (pv 0)) (blkOk_by (N := ["value", "sign"]) (sc := defScope s_is_made_of_fates) (by decide +kernel)) (fun _ _ _ _ _ => (pg_name (i := 1) sc_is_made_of_fates.nd rfl (by first | exact Or.inl rfl | exact Or.inr rfl))) (fun _ _ _ _ _ => pts_nil) (fun _ _ _ _ _ => (pe_cmpR o_inC (pv 1) (pe_gstrS [110, 102, 115] (by rfl) (by rfl) T.c_FATES) (by rfl)))) pa_nil)))))), ?_⟩
    walk_at "r"
    refine r_typ (.str _) ?_
    walk_at "r"
    refine r_yesD rfl ?_
    walk_at "r"
    refine ⟨_, rfl, fun D hD => lcS_true (l := l) hD (by omega) (fun i c H' e e' R hR => ?_) fun H' e e' => ?_⟩
    · walk_at "r"
      refine ⟨rfl, ?_⟩
      walk_at "r"
      rw [decide_eq_true (by rcases hw.get e with rfl | rfl | rfl <;> decide)]
      exact hR _ (Same.refl _)
    · walk_at "r"
      exact r_allT e' (q _ e)
def sp_is_word (K : PySem.W.Frag) : Sp := fun vs H Q _ => ∃ l : List Nat, vs = [.str (S l)] ∧ Wd l ∧ l.length ≤ 200 ∧ ∀ H', Same H H' → Q (.bl true) H'
theorem ok_is_word (T : Txt K mg) : Ok P w K mg base CX0 (2) "is_word" s_is_word ["value"] (sp_is_word K) := by
  obtain ⟨fd, D⟩ := T.d_is_word
  refine ⟨⟨_, fd, T.g_is_word, D, D.bindsN (fun _ _ _ _ _ _ us hl => match us, hl with | [_], _ => rfl), ?_⟩⟩
  refine D.ok sc_is_word (fun vs H Q E h => ?_) (fun cdv A outer s H vs Q E hr h => ?_)
  · obtain ⟨l, rfl, hw, hl, q⟩ := h
    rfl
  · obtain ⟨l, rfl, hw, hl, q⟩ := h
    have F_is_made_of_fates := ok_is_made_of_fates (P := P) (w := w) (K := K) (mg := mg) (base := base) T
    refine ⟨_, PSs.nox (pss_one (ps_ret (pe_and (pe_cmpR o_isT (pe_callTy call_type1 (by rfl) T.z_type (by decide +kernel) (pa_cons (pv 0) pa_nil)) (pe_bltn (v := .ty "str") (by rfl) T.z_str (by decide +kernel) rfl) (nomark _)) (pe_and (pe_cmpR op_le (pe_callB k_lnS (by rfl) T.z_len (by decide +kernel) (pa_cons (pv 0) pa_nil)) (pe_gint (by rfl) T.c_MOST_FATES) (nomark _)) (pe_one (pe_cl F_is_made_of_fates hr (by rfl) pass0 (pa_cons (pv 0) pa_nil))))))), ?_⟩
    walk_at "r"
    refine r_typ (.str _) ?_
    walk_at "r"
    refine r_yesD rfl ?_
    walk_at "r"
    refine r_lnT (l := l) (by omega) ?_
    walk_at "r"
    refine r_yesD (by omega) ?_
    walk_at "r"
    exact ⟨l, rfl, hw, by omega, q⟩
def sp_need_word (K : PySem.W.Frag) : Sp := fun vs H Q _ => ∃ l : List Nat, vs = [.str (S l)] ∧ Wd l ∧ l.length ≤ 200 ∧ ∀ H', Same H H' → Q .non H'
theorem ok_need_word (T : Txt K mg) : Ok P w K mg base CX0 (3) "need_word" s_need_word ["value"] (sp_need_word K) := by
  obtain ⟨fd, D⟩ := T.d_need_word
  refine ⟨⟨_, fd, T.g_need_word, D, D.bindsN (fun _ _ _ _ _ _ us hl => match us, hl with | [_], _ => rfl), ?_⟩⟩
  refine D.ok sc_need_word (fun vs H Q E h => ?_) (fun cdv A outer s H vs Q E hr h => ?_)
  · obtain ⟨l, rfl, hw, hl, q⟩ := h
    rfl
  · obtain ⟨l, rfl, hw, hl, q⟩ := h
    have F_is_word := ok_is_word (P := P) (w := w) (K := K) (mg := mg) (base := base) T
    refine ⟨_, PSs.nox (pss_one (ps_if (pt_not (pt_val (pe_cl F_is_word hr (by rfl) pass0 (pa_cons (pv 0) pa_nil))))
        (pss_one ps_never)
        pss_nil)), ?_⟩
    walk_at "r"
    refine ⟨l, rfl, hw, hl, fun H1 e => ?_⟩
    walk_at "r"
    exact q _ e

def sp_place_behind (K : PySem.W.Frag) : Sp := fun vs H Q _ => ∃ (p : Int) (c : Nat), vs = [.int p, .str (S [c])] ∧ Fa c ∧ Q (.int (pst p c)) H
theorem ok_place_behind (T : Txt K mg) : Ok P w K mg base CX0 (1) "place_behind" s_place_behind ["at", "fate"] (sp_place_behind K) := by
  obtain ⟨fd, D⟩ := T.d_place_behind
  refine ⟨⟨_, fd, T.g_place_behind, D, D.bindsN (fun _ _ _ _ _ _ us hl => match us, hl with | [_, _], _ => rfl), ?_⟩⟩
  refine D.ok sc_place_behind (fun vs H Q E h => ?_) (fun cdv A outer s H vs Q E hr h => ?_)
  · obtain ⟨p, c, rfl, hc, q⟩ := h
    rfl
  · obtain ⟨p, c, rfl, hc, q⟩ := h
    refine ⟨_, PSs.nox (pss_one (ps_ret (pe_op op_add (pe_op op_mul pe_int (pv 0)) (pe_sx (pe_ix ix_tup (pe_glob (v := .ref _) (by rfl) T.c_BEHIND rfl) (pe_op op_mod (pv 0) pe_int) (fun _ _ => rfl)) (pv 1))))), ?_⟩
    walk_at "r"
    refine r_I (.inl ⟨by decide, by decide⟩) ?_
    walk_at "r"
    refine r_I (by show (0 : Int) < 2; decide) ?_
    obtain ⟨z, hz, rest, ho⟩ := behind_ix p hc
    refine r_ixT (T.t_BEHIND _) hz ?_
    refine ⟨⟨_, rfl⟩, ?_⟩
    walk_at "r"
    refine ⟨_, _, _, rest, rfl, rfl, ho, ?_⟩
    walk_at "r"
    exact q
def sp_places_along (K : PySem.W.Frag) : Sp := fun vs H Q _ => ∃ l : List Nat, vs = [.str (S l)] ∧ Wd l ∧ l.length ≤ 1000 ∧ ∀ H' t, Same H H' → H t = none → H' t = some (.lst ((pls l).map V.int)) → Q (.ref t) H'
theorem ok_places_along (T : Txt K mg) : Ok P w K mg base CX0 (2) "places_along" s_places_along ["word"] (sp_places_along K) := by
  obtain ⟨fd, D⟩ := T.d_places_along
  refine ⟨⟨_, fd, T.g_places_along, D, D.bindsN (fun _ _ _ _ _ _ us hl => match us, hl with | [_], _ => rfl), ?_⟩⟩
  refine D.ok sc_places_along (fun vs H Q E h => ?_) (fun cdv A outer s H vs Q E hr h => ?_)
  · obtain ⟨l, rfl, hw, hl, q⟩ := h
    rfl
  · obtain ⟨l, rfl, hw, hl, q⟩ := h
    have F_place_behind := ok_place_behind (P := P) (w := w) (K := K) (mg := mg) (base := base) T
    refine ⟨_, PSs.nox (pss_cons (ps_set (i := 1) sc_places_along.nd rfl (by first | exact Or.inl rfl | exact Or.inr rfl) (pe_lst (pa_cons pe_int pa_nil)))
      (pss_cons (ps_for PassesOwn.never rfl (pi_str (pv 0)) (pg_name (i := 2) sc_places_along.nd rfl (by first | exact Or.inl rfl | exact Or.inr rfl))
        (pss_one (ps_expr (pe_bm PySem.F.plainAttrs_list PySem.F.slot_list_append PySem.F.type_list_append mt_append (pv 1) (pa_cons (pe_cl F_place_behind hr (by rfl) pass0 (pa_cons (pe_ix ix_list (pv 1) (pe_un un_neg pe_int) (fun _ _ => rfl)) (pa_cons (pv 2) pa_nil))) pa_nil)))))
      (pss_one (ps_ret (pv 1))))), ?_⟩
    walk_at "r"
    refine ⟨by show 1 ≤ sizeLine; decide, fun p hp => ?_⟩
    walk_at "r"
    refine ⟨_, rfl, for_S (l := l) (fun i σ H' => ∃ y, σ = [some (.str (S l)), some (.ref p), y] ∧ Same H H' ∧ H' p = some (.lst ((pls (l.take i)).map V.int))) ⟨_, rfl, same_new hp, upd_same⟩ ?_ ?_⟩
    · rintro i c σ H' e ⟨y, rfl, e1, h1⟩
      have hi : i < l.length := (List.getElem?_eq_some_iff.mp e).1
      have len1 : ((pls (l.take i)).map V.int).length = i + 1 := by rw [List.length_map, pls_len, List.length_take]; omega
      walk_at "r"
      refine ⟨_, rfl, .inl ⟨rfl, _, SqL.of h1⟩, ?_⟩
      walk_at "r"
      refine r_ixL (SqL.of h1) (pls_last _) ?_
      walk_at "r"
      refine ⟨_, c, rfl, hw.get e, ?_⟩
      walk_at "r"
      refine ⟨p, _, _, rfl, rfl, h1, by rw [len1]; exact lt_line (by omega), ?_⟩
      walk_at "r"
      refine ⟨_, rfl, Same.mut e1 hp, ?_⟩
      rw [upd_same, take_snoc e, pls_snoc, List.map_append]
      rfl
    · rintro σ H' ⟨y, rfl, e1, h1⟩
      walk_at "r"
      rw [List.take_length] at h1
      exact q _ p e1 hp h1
def sp_place_of (K : PySem.W.Frag) : Sp := fun vs H Q _ => ∃ l : List Nat, vs = [.str (S l)] ∧ Wd l ∧ l.length ≤ 1000 ∧ ∀ H', Same H H' → Q (.int (pl l)) H'
theorem ok_place_of (T : Txt K mg) : Ok P w K mg base CX0 (3) "place_of" s_place_of ["word"] (sp_place_of K) := by
  obtain ⟨fd, D⟩ := T.d_place_of
  refine ⟨⟨_, fd, T.g_place_of, D, D.bindsN (fun _ _ _ _ _ _ us hl => match us, hl with | [_], _ => rfl), ?_⟩⟩
  refine D.ok sc_place_of (fun vs H Q E h => ?_) (fun cdv A outer s H vs Q E hr h => ?_)
  · obtain ⟨l, rfl, hw, hl, q⟩ := h
    rfl
  · obtain ⟨l, rfl, hw, hl, q⟩ := h
    have F_places_along := ok_places_along (P := P) (w := w) (K := K) (mg := mg) (base := base) T
    refine ⟨_, PSs.nox (pss_one (ps_ret (pe_ix ix_list (pe_cl F_places_along hr (by rfl) pass0 (pa_cons (pv 0) pa_nil)) (pe_un un_neg pe_int) (fun _ _ => rfl)))), ?_⟩
    walk_at "r"
    refine ⟨l, rfl, hw, hl, fun H1 t e1 ht h1 => ?_⟩
    walk_at "r"
    refine r_ixL (SqL.of h1) (pls_last _) ?_
    exact q _ e1
def sp_numbers_at (K : PySem.W.Frag) : Sp := fun vs H Q _ => ∃ p : Int, vs = [.int p] ∧ ∀ t, H t = none → Q (.ref t) (upd H t (.tup [.int (nu p).1, .int (nu p).2]))
theorem ok_numbers_at (T : Txt K mg) : Ok P w K mg base CX0 (1) "numbers_at" s_numbers_at ["at"] (sp_numbers_at K) := by
  obtain ⟨fd, D⟩ := T.d_numbers_at
  refine ⟨⟨_, fd, T.g_numbers_at, D, D.bindsN (fun _ _ _ _ _ _ us hl => match us, hl with | [_], _ => rfl), ?_⟩⟩
  refine D.ok sc_numbers_at (fun vs H Q E h => ?_) (fun cdv A outer s H vs Q E hr h => ?_)
  · obtain ⟨p, rfl, q⟩ := h
    rfl
  · obtain ⟨p, rfl, q⟩ := h
    refine ⟨_, PSs.nox (pss_one (ps_ret (pe_ifExp (pt_cmpR op_eq (pe_op op_mod (pv 0) pe_int) pe_int (nomark _)) (pe_tup (pa_cons (pv 0) (pa_cons (pe_op op_add (pv 0) pe_int) pa_nil))) (pe_tup (pa_cons (pe_op op_add (pv 0) pe_int) (pa_cons (pv 0) pa_nil)))))), ?_⟩
    walk_at "r"
    refine r_I (by show (0 : Int) < 2; decide) ?_
    walk_at "r"
    refine r_dec (fun h => ?_) (fun h => ?_)
    · have e : p % 2 = 0 := V.int.inj h
      walk_at "r"
      refine ⟨by show 2 ≤ sizeLine; decide, fun t ht => ?_⟩
      have := q t ht
      unfold nu at this
      rw [if_pos e] at this
      exact this
    · have e : ¬ p % 2 = 0 := fun z => h (congrArg V.int z)
      walk_at "r"
      refine ⟨by show 2 ≤ sizeLine; decide, fun t ht => ?_⟩
      have := q t ht
      unfold nu at this
      rw [if_neg e] at this
      exact this
def sp_place (K : PySem.W.Frag) : Sp := fun vs H Q _ => ∃ l : List Nat, vs = [.str (S l)] ∧ Wd l ∧ l.length ≤ 200 ∧ ∀ H', Same H H' → Q (.int (pl l)) H'
theorem ok_place (T : Txt K mg) : Ok P w K mg base CX0 (4) "place" s_place ["word"] (sp_place K) := by
  obtain ⟨fd, D⟩ := T.d_place
  refine ⟨⟨_, fd, T.g_place, D, D.bindsN (fun _ _ _ _ _ _ us hl => match us, hl with | [_], _ => rfl), ?_⟩⟩
  refine D.ok sc_place (fun vs H Q E h => ?_) (fun cdv A outer s H vs Q E hr h => ?_)
  · obtain ⟨l, rfl, hw, hl, q⟩ := h
    rfl
  · obtain ⟨l, rfl, hw, hl, q⟩ := h
    have F_need_word := ok_need_word (P := P) (w := w) (K := K) (mg := mg) (base := base) T
    have F_place_of := ok_place_of (P := P) (w := w) (K := K) (mg := mg) (base := base) T
    refine ⟨_, PSs.nox (pss_cons (ps_expr (pe_cl F_need_word hr (by rfl) pass0 (pa_cons (pv 0) pa_nil)))
      (pss_one (ps_ret (pe_cl F_place_of hr (by rfl) pass0 (pa_cons (pv 0) pa_nil))))), ?_⟩
    walk_at "r"
    refine ⟨l, rfl, hw, hl, fun H1 e => ?_⟩
    walk_at "r"
    exact ⟨l, rfl, hw, by omega, fun H2 e2 => q _ (e.trans e2)⟩
def sp_numbers (K : PySem.W.Frag) : Sp := fun vs H Q _ => ∃ l : List Nat, vs = [.str (S l)] ∧ Wd l ∧ l.length ≤ 200 ∧ ∀ H' t, Same H H' → H' t = some (.tup [.int (nu (pl l)).1, .int (nu (pl l)).2]) → Q (.ref t) H'
theorem ok_numbers (T : Txt K mg) : Ok P w K mg base CX0 (4) "numbers" s_numbers ["word"] (sp_numbers K) := by
  obtain ⟨fd, D⟩ := T.d_numbers
  refine ⟨⟨_, fd, T.g_numbers, D, D.bindsN (fun _ _ _ _ _ _ us hl => match us, hl with | [_], _ => rfl), ?_⟩⟩
  refine D.ok sc_numbers (fun vs H Q E h => ?_) (fun cdv A outer s H vs Q E hr h => ?_)
  · obtain ⟨l, rfl, hw, hl, q⟩ := h
    rfl
  · obtain ⟨l, rfl, hw, hl, q⟩ := h
    have F_need_word := ok_need_word (P := P) (w := w) (K := K) (mg := mg) (base := base) T
    have F_numbers_at := ok_numbers_at (P := P) (w := w) (K := K) (mg := mg) (base := base) T
    have F_place_of := ok_place_of (P := P) (w := w) (K := K) (mg := mg) (base := base) T
    refine ⟨_, PSs.nox (pss_cons (ps_expr (pe_cl F_need_word hr (by rfl) pass0 (pa_cons (pv 0) pa_nil)))
      (pss_one (ps_ret (pe_cl F_numbers_at hr (by rfl) pass0 (pa_cons (pe_cl F_place_of hr (by rfl) pass0 (pa_cons (pv 0) pa_nil)) pa_nil))))), ?_⟩
    walk_at "r"
    refine ⟨l, rfl, hw, hl, fun H1 e => ?_⟩
    walk_at "r"
    refine ⟨l, rfl, hw, by omega, fun H2 e2 => ?_⟩
    walk_at "r"
    exact ⟨_, rfl, fun t ht => q _ t ((e.trans e2).trans (same_new ht)) upd_same⟩

def sp_Lpot (K : PySem.W.Frag) : Sp := fun vs H Q _ => ∃ (a : Addr) (ns : List Int) (i : Nat), vs = [.ref a, .int i] ∧ SqL K H a (ns.map V.int) ∧ i ≤ 10 ∧ ∀ H' p, Same H H' → H p = none → PotAt H' p 0 → Q (.ref p) H'
theorem ok_Lpot (T : Txt K mg) : Ok P w K mg base CX0 (1) "_law_pot" s_Lpot ["script", "at"] (sp_Lpot K) := by
  obtain ⟨fd, D⟩ := T.d_Lpot
  refine ⟨⟨_, fd, T.g__law_pot, D, D.bindsN (fun _ _ _ _ _ _ us hl => match us, hl with | [_, _], _ => rfl), ?_⟩⟩
  refine D.ok sc_Lpot (fun vs H Q E h => ?_) (fun cdv A outer s H vs Q E hr h => ?_)
  · obtain ⟨a, ns, i, rfl, hS, hi, q⟩ := h
    rfl
  · obtain ⟨a, ns, i, rfl, hS, hi, q⟩ := h
    refine ⟨_, PSs.nox (pss_cons (ps_set (i := 2) sc_Lpot.nd rfl (by first | exact Or.inl rfl | exact Or.inr rfl) (pe_ifExp (pt_cmpR op_lt (pv 1) (pe_callB k_lnQ (by rfl) T.z_len (by decide +kernel) (pa_cons (pv 0) pa_nil)) (nomark _)) (pe_ix ix_list (pv 0) (pv 1) (fun _ _ => rfl)) (pe_op op_add (pe_op op_add (pe_op op_mod (pe_callB (cr_sum rfl) (by rfl) T.z_sum (by decide +kernel) (pa_cons (pe_slice sl_list (pv 0) po_none (po_some pe_int)) pa_nil)) pe_int) (pe_op op_mulW pe_int (pv 1))) pe_int)))
      (pss_cons (ps_set (i := 3) sc_Lpot.nd rfl (by first | exact Or.inl rfl | exact Or.inr rfl) (pe_op op_mulW (pe_op op_mod (pe_callTy k_int (by rfl) T.z_int (by decide +kernel) (pa_cons (pe_callB k_abs (by rfl) T.z_abs (by decide +kernel) (pa_cons (pv 2) pa_nil)) pa_nil)) (pe_op op_powW (pe_op op_powW pe_int pe_int) pe_int)) (pe_callTy k_int (by rfl) T.z_int (by decide +kernel) (pa_cons (pe_cmpR op_ge (pe_callB k_abs (by rfl) T.z_abs (by decide +kernel) (pa_cons (pv 2) pa_nil)) (pe_op op_powW pe_int pe_int) (nomark _)) pa_nil))))
      (pss_cons (ps_set (i := 4) sc_Lpot.nd rfl (by first | exact Or.inl rfl | exact Or.inr rfl) (pe_op op_mod (pe_callTy k_int (by rfl) T.z_int (by decide +kernel) (pa_cons (pv 2) pa_nil)) pe_int))
      (pss_one (ps_ret (pe_lst (pa_cons (pv 3) (pa_cons (pe_op op_mod (pe_callTy k_int (by rfl) T.z_int (by decide +kernel) (pa_cons (pe_op op_add (pe_op op_add (pe_op op_mulW (pv 4) pe_int) (pe_op op_mulW (pe_op op_mulW pe_int (pv 1)) (pv 1))) pe_int) pa_nil)) pe_int) (pa_cons pe_int pa_nil))))))))), ?_⟩
    refine r_seq (r_asg (r_cut (fun x H1 => ∃ z : Int, x = .int z ∧ Same H H1) ?_ fun R fin => ?_))
    · rintro x H1 ⟨z, rfl, e⟩
      walk_at "r"
      refine r_I (cpw (by decide) (by decide) (by decide) (by decide)) ?_
      walk_at "r"
      refine r_I ⟨by decide, by decide +kernel⟩ ?_
      walk_at "r"
      refine r_I (by show (0 : Int) < _; decide +kernel) ?_
      walk_at "r"
      refine r_I (cpw (by decide) (by decide) (by decide) (by decide)) ?_
      walk_at "r"
      have hM : (0 : Int) < (10 ^ (60 : Int).toNat) ^ (5 : Int).toNat := by decide +kernel
      have hM2 : ((10 : Int) ^ (60 : Int).toNat) ^ (5 : Int).toNat < 2 ^ 1000 := by decide +kernel
      have h1 := Int.emod_nonneg (if z < 0 then -z else z) (Int.ne_of_gt hM)
      have h2 := Int.emod_lt_of_pos (if z < 0 then -z else z) hM
      generalize (if z < 0 then -z else z) % ((10 : Int) ^ (60 : Int).toNat) ^ (5 : Int).toNat = own at h1 h2 ⊢
      have h3 : own < 2 ^ 1000 := Int.lt_trans h2 hM2
      generalize hb : (decide ((10 : Int) ^ (18 : Int).toNat ≤ if z < 0 then -z else z)) = b
      have ho : ∃ o : Int, own * (if b then 1 else 0) = o ∧ 0 ≤ o ∧ o.natAbs < 2 ^ 1000 ∧ CMulW own (if b then 1 else 0) := by
        have e2 : (2 : Int) ^ 1000 ≤ 2 ^ 1100 := by decide +kernel
        have e3 : (1 : Int) < 2 ^ 1000 := by decide +kernel
        cases b
        · exact ⟨0, by simp, by decide, by decide +kernel, cmw (by omega) (by omega) (by simp) (by simp)⟩
        · exact ⟨own, by simp, h1, by omega, cmw (by omega) (by omega) (by simp) (by simp)⟩
      obtain ⟨o, ho1, ho2, ho3, ho4⟩ := ho
      refine r_I ho4 ?_
      rw [ho1]
      walk_at "r"
      refine r_I (by show (0 : Int) < _; decide) ?_
      walk_at "r"
      have s1 := Int.emod_nonneg z (show (2305843009213693951 : Int) ≠ 0 by decide)
      have s2 := Int.emod_lt_of_pos z (show (0 : Int) < 2305843009213693951 by decide)
      generalize z % 2305843009213693951 = sm at s1 s2 ⊢
      refine r_I (cms (by omega) (by omega) (by omega) (by omega)) ?_
      walk_at "r"
      refine r_I (cms (by omega) (by omega) (by omega) (by omega)) ?_
      walk_at "r"
      refine r_I (cms (by omega) (by omega) (by omega) (by omega)) ?_
      walk_at "r"
      refine r_I (by show (0 : Int) < _; decide) ?_
      walk_at "r"
      refine ⟨by show 3 ≤ sizeLine; decide, fun p hp => ?_⟩
      refine q _ p (e.trans (same_new hp)) (e.free hp) ⟨o, _, 0, upd_same, ho2, ho3, Int.emod_nonneg _ (by decide), Int.lt_trans (Int.emod_lt_of_pos _ (by decide)) (by decide), by decide, by decide⟩
    · walk_at "r"
      refine r_lnL hS ?_
      walk_at "r"
      refine r_dec (fun h => ?_) (fun h => ?_)
      · walk_at "r"
        have hi' : i < ns.length := by rw [List.length_map] at h; omega
        refine r_ixL hS (v := .int ns[i]) (atI_nat (by rw [List.getElem?_map, List.getElem?_eq_getElem hi']; rfl)) ?_
        exact fin _ _ ⟨_, rfl, Same.refl _⟩
      · walk_at "r"
        refine r_slL hS fun p hp => ?_
        walk_at "r"
        obtain ⟨ms, hms⟩ : ∃ ms : List Int, cutV (ns.map V.int) none (some 1) = ms.map V.int := by
          refine ⟨(ns.drop (HT.sIx (ns.map V.int).length 0 none)).take (HT.sIx (ns.map V.int).length (ns.map V.int).length (some 1) - HT.sIx (ns.map V.int).length 0 none), ?_⟩
          unfold cutV
          rw [List.map_take, List.map_drop]
        rw [hms]
        refine r_sum (SqL.of upd_same) ?_
        walk_at "r"
        refine r_I (by show (0 : Int) < _; decide) ?_
        walk_at "r"
        refine r_I (cms (by omega) (by omega) (by omega) (by omega)) ?_
        walk_at "r"
        exact fin _ _ ⟨_, rfl, same_new hp⟩
def sp_Ltake (K : PySem.W.Frag) : Sp := fun vs H Q _ => ∃ (a : Addr) (u c : Int), vs = [.ref a, .int u] ∧ PotAt H a c ∧ c ≤ 1000000 ∧ 0 < u ∧ u < 1073741824 ∧ ∀ H' d, But a H H' → PotAt H' a (c + 1) → 0 ≤ d → d < u → Q (.int d) H'
theorem ok_Ltake (T : Txt K mg) : Ok P w K mg base CX0 (1) "_law_take" s_Ltake ["pot", "upto"] (sp_Ltake K) := by
  obtain ⟨fd, D⟩ := T.d_Ltake
  refine ⟨⟨_, fd, T.g__law_take, D, D.bindsN (fun _ _ _ _ _ _ us hl => match us, hl with | [_, _], _ => rfl), ?_⟩⟩
  refine D.ok sc_Ltake (fun vs H Q E h => ?_) (fun cdv A outer s H vs Q E hr h => ?_)
  · obtain ⟨a, u, c, rfl, hP, hc, hu, hu2, q⟩ := h
    rfl
  · obtain ⟨a, u, c, rfl, hP, hc, hu, hu2, q⟩ := h
    refine ⟨_, PSs.nox (pss_cons (ps_if (pt_cmpR op_gt (pe_ix ix_list (pv 0) pe_int (fun _ _ => rfl)) pe_int (nomark _))
        (pss_cons (ps_set (i := 4) sc_Ltake.nd rfl (by first | exact Or.inl rfl | exact Or.inr rfl) (pe_op op_mod (pe_callTy k_int (by rfl) T.z_int (by decide +kernel) (pa_cons (pe_ix ix_list (pv 0) pe_int (fun _ _ => rfl)) pa_nil)) (pv 1)))
      (pss_cons (ps_asg (pe_op op_fdivW (pe_ix ix_list (pv 0) pe_int (fun _ _ => rfl)) (pv 1)) (pg_sub (pv 0) pe_int set_list))
      (pss_one (ps_ret (pv 4)))))
        pss_nil)
      (pss_cons (ps_asg (pe_op op_add (pe_ix ix_list (pv 0) pe_int (fun _ _ => rfl)) pe_int) (pg_sub (pv 0) pe_int set_list))
      (pss_cons (ps_set (i := 2) sc_Ltake.nd rfl (by first | exact Or.inl rfl | exact Or.inr rfl) (pe_ix ix_list (pe_lst (pa_cons pe_int (pa_cons pe_int (pa_cons pe_int (pa_cons pe_int (pa_cons pe_int pa_nil)))))) (pe_op op_mod (pe_callTy k_int (by rfl) T.z_int (by decide +kernel) (pa_cons (pe_ix ix_list (pv 0) pe_int (fun _ _ => rfl)) pa_nil)) pe_int) (fun _ _ => rfl)))
      (pss_cons (ps_set (i := 3) sc_Ltake.nd rfl (by first | exact Or.inl rfl | exact Or.inr rfl) (pe_op op_mod (pe_callTy k_int (by rfl) T.z_int (by decide +kernel) (pa_cons (pe_op op_powW (pe_callTy k_int (by rfl) T.z_int (by decide +kernel) (pa_cons (pe_op op_add (pe_op op_add (pe_ix ix_list (pv 0) pe_int (fun _ _ => rfl)) (pe_op op_mulW (pe_op op_mulW pe_int (pe_ix ix_list (pv 0) pe_int (fun _ _ => rfl))) (pe_ix ix_list (pv 0) pe_int (fun _ _ => rfl)))) pe_int) pa_nil)) pe_int) pa_nil)) (pv 2)))
      (pss_cons (ps_set (i := 3) sc_Ltake.nd rfl (by first | exact Or.inl rfl | exact Or.inr rfl) (pe_op op_mod (pe_callTy k_int (by rfl) T.z_int (by decide +kernel) (pa_cons (pe_op op_mulW (pv 3) (pe_op op_add (pe_op op_mod (pe_callTy k_int (by rfl) T.z_int (by decide +kernel) (pa_cons (pv 3) pa_nil)) pe_int) (pe_op op_mulW pe_int (pe_ix ix_list (pv 0) pe_int (fun _ _ => rfl))))) pa_nil)) pe_int))
      (pss_one (ps_ret (pe_op op_mod (pe_callTy k_int (by rfl) T.z_int (by decide +kernel) (pa_cons (pe_op op_fdivW (pv 3) pe_int) pa_nil)) (pv 1))))))))), ?_⟩
    obtain ⟨own, sd, n, hA, o1, o2, s1, s2, n1, n2⟩ := hP
    refine r_seq (s_cut (fun σ' H' => σ' = [some (.ref a), some (.int u), none, none, none] ∧ H' = H) ?_ fun R fin => ?_)
    · rintro σ' G ⟨rfl, rfl⟩
      walk_at "r"
      refine r_ixL (SqL.of hA) rfl ?_
      walk_at "r"
      refine r_setL (j := 2) hA rfl ?_
      walk_at "r"
      have hA2 : (upd G a (.lst ([V.int own, V.int sd, V.int n].set 2 (V.int (n + 1))))) a = some (.lst [.int own, .int sd, .int (n + 1)]) := upd_same
      have b2 : But a G (upd G a (.lst ([V.int own, V.int sd, V.int n].set 2 (V.int (n + 1))))) := But.put But.refl
      generalize upd G a (.lst ([V.int own, V.int sd, V.int n].set 2 (V.int (n + 1)))) = H2 at hA2 b2 ⊢
      refine ⟨by show 5 ≤ sizeLine; decide, fun p hp => ?_⟩
      have hA3 : (upd H2 p (.lst [.int 2147483647, .int 2147483629, .int 2147483587, .int 2147483579, .int 2147483563])) a = some (.lst [.int own, .int sd, .int (n + 1)]) := same_new hp _ _ hA2
      walk_at "r"
      refine r_ixL (SqL.of hA3) rfl ?_
      walk_at "r"
      refine r_I (by show (0 : Int) < _; decide) ?_
      obtain ⟨v, hv, hm⟩ := at_mem (xs := [.int 2147483647, .int 2147483629, .int 2147483587, .int 2147483579, .int 2147483563]) (i := (n + 1) % 5) (by omega) (by simp; omega)
      refine r_ixL (SqL.of upd_same) hv ?_
      obtain ⟨m, rfl, m1, m2⟩ : ∃ m : Int, v = .int m ∧ 0 < m ∧ m ≤ 2147483647 := by
        simp only [List.mem_cons, List.not_mem_nil, or_false] at hm
        rcases hm with rfl | rfl | rfl | rfl | rfl <;> exact ⟨_, rfl, by decide, by decide⟩
      have b3 := b2.trans (But.of (same_new hp (o := .lst [.int 2147483647, .int 2147483629, .int 2147483587, .int 2147483579, .int 2147483563])))
      generalize upd H2 p (.lst [.int 2147483647, .int 2147483629, .int 2147483587, .int 2147483579, .int 2147483563]) = H3 at hA3 b3 ⊢
      walk_at "r"
      refine r_ixL (SqL.of hA3) rfl ?_
      walk_at "r"
      refine r_ixL (SqL.of hA3) rfl ?_
      refine r_I (cms (by omega) (by omega) (by omega) (by omega)) ?_
      generalize hx : (_ : Int) * (n + 1) = x1
      have hx1 : 0 ≤ x1 := by omega
      have hx2 : x1 ≤ 1000000000000 := by omega
      have hx3 := mulB hx1 hx2 (show 0 ≤ n + 1 by omega) (show n + 1 ≤ 2000000 by omega) (show (1000000000000 : Int) * 2000000 ≤ 2000000000000000000 by decide)
      walk_at "r"
      refine r_ixL (SqL.of hA3) rfl ?_
      refine r_I (cms (by omega) (by omega) (by omega) (by omega)) ?_
      generalize x1 * (n + 1) = x2 at hx3 ⊢
      walk_at "r"
      refine r_I (cpw (by omega) (by omega) (by decide) (by decide)) ?_
      walk_at "r"
      refine r_I m1 ?_
      walk_at "r"
      generalize hb : (sd + x2 + _) ^ (3 : Int).toNat = cub
      have t1 := Int.emod_nonneg cub (Int.ne_of_gt m1)
      have t2 := Int.emod_lt_of_pos cub m1
      generalize cub % m = bl at t1 t2 ⊢
      refine r_I (by show (0 : Int) < _; decide) ?_
      walk_at "r"
      refine r_ixL (SqL.of hA3) rfl ?_
      refine r_I (cms (by omega) (by omega) (by omega) (by omega)) ?_
      walk_at "r"
      refine r_I (cms (by omega) (by omega) (by omega) (by omega)) ?_
      walk_at "r"
      refine r_I (by show (0 : Int) < _; decide) ?_
      walk_at "r"
      refine r_I (cdw (by decide) (by decide)) ?_
      walk_at "r"
      refine r_I hu ?_
      exact q _ _ b3 ⟨own, sd, n + 1, hA3, o1, o2, s1, s2, by omega, by omega⟩ (Int.emod_nonneg _ (by omega)) (Int.emod_lt_of_pos _ hu)
    · walk_at "r"
      refine r_ixL (SqL.of hA) rfl ?_
      walk_at "r"
      refine r_dec (fun h => ?_) (fun h => ?_)
      · walk_at "r"
        refine r_ixL (SqL.of hA) rfl ?_
        walk_at "r"
        refine r_I hu ?_
        walk_at "r"
        refine r_ixL (SqL.of hA) rfl ?_
        walk_at "r"
        refine r_I (cdw hu (by omega)) ?_
        walk_at "r"
        refine r_setL (j := 0) hA rfl ?_
        walk_at "r"
        obtain ⟨d1, d2⟩ := div_sz o1 o2 hu
        exact q _ _ (But.put But.refl) ⟨own / u, sd, n, upd_same, d1, d2, s1, s2, n1, by omega⟩ (Int.emod_nonneg _ (by omega)) (Int.emod_lt_of_pos _ hu)
      · walk_at "r"
        exact fin _ _ ⟨rfl, rfl⟩
def sp_Lof (K : PySem.W.Frag) : Sp := fun vs H Q _ => ∃ (a l : Addr) (xs : List V) (c : Int), vs = [.ref a, .ref l] ∧ PotAt H a c ∧ c ≤ 1000000 ∧ SqL K H l xs ∧ l ≠ a ∧ 0 < xs.length ∧ xs.length ≤ 1000000 ∧ ∀ H' x, But a H H' → PotAt H' a (c + 1) → x ∈ xs → Q x H'
theorem ok_Lof (T : Txt K mg) : Ok P w K mg base CX0 (2) "_law_of" s_Lof ["pot", "some"] (sp_Lof K) := by
  obtain ⟨fd, D⟩ := T.d_Lof
  refine ⟨⟨_, fd, T.g__law_of, D, D.bindsN (fun _ _ _ _ _ _ us hl => match us, hl with | [_, _], _ => rfl), ?_⟩⟩
  refine D.ok sc_Lof (fun vs H Q E h => ?_) (fun cdv A outer s H vs Q E hr h => ?_)
  · obtain ⟨a, l, xs, c, rfl, hP, hc, hl, hla, h0, hz, q⟩ := h
    rfl
  · obtain ⟨a, l, xs, c, rfl, hP, hc, hl, hla, h0, hz, q⟩ := h
    have F_Ltake := ok_Ltake (P := P) (w := w) (K := K) (mg := mg) (base := base) T
    refine ⟨_, PSs.nox (pss_one (ps_ret (pe_ix ix_list (pv 1) (pe_cl F_Ltake hr (by rfl) pass0 (pa_cons (pv 0) (pa_cons (pe_callB k_lnQ (by rfl) T.z_len (by decide +kernel) (pa_cons (pv 1) pa_nil)) pa_nil))) (fun _ _ => rfl)))), ?_⟩
    walk_at "r"
    refine r_lnL hl ?_
    walk_at "r"
    refine ⟨a, xs.length, c, rfl, hP, hc, by omega, by omega, fun H' d b p d0 d1 => ?_⟩
    obtain ⟨v, hv, hm⟩ := at_mem (xs := xs) d0 d1
    exact r_ixL (b.sql hla hl) hv (q _ _ b p hm)
def sp_Lcells (K : PySem.W.Frag) : Sp := fun vs H Q _ => ∃ (a : Addr) (xs : List V) (m : Int), vs = [.ref a, .int m] ∧ SqL K H a xs ∧ 1 ≤ m ∧ m ≤ 10 ∧ ∀ H' p (n : Nat), Same H H' → n ≤ 10 → H' p = some (.lst ((List.range n).map fun i : Nat => V.int i)) → Q (.ref p) H'
theorem ok_Lcells (T : Txt K mg) : Ok P w K mg base CX0 (1) "_law_cells" s_Lcells ["script", "most"] (sp_Lcells K) := by
  obtain ⟨fd, D⟩ := T.d_Lcells
  refine ⟨⟨_, fd, T.g__law_cells, D, D.bindsN (fun _ _ _ _ _ _ us hl => match us, hl with | [_, _], _ => rfl), ?_⟩⟩
  refine D.ok sc_Lcells (fun vs H Q E h => ?_) (fun cdv A outer s H vs Q E hr h => ?_)
  · obtain ⟨a, xs, m, rfl, hS, h1, h2, q⟩ := h
    rfl
  · obtain ⟨a, xs, m, rfl, hS, h1, h2, q⟩ := h
    refine ⟨_, PSs.nox (pss_one (ps_ret (pe_listRg rfl (by rfl) T.z_list (prg_1 (by rfl) T.z_range (pe_callB (k_max2 rfl) (by rfl) T.z_max (by decide +kernel) (pa_cons pe_int (pa_cons (pe_callB (k_min2 rfl) (by rfl) T.z_min (by decide +kernel) (pa_cons (pv 1) (pa_cons (pe_callB k_lnQ (by rfl) T.z_len (by decide +kernel) (pa_cons (pv 0) pa_nil)) pa_nil))) pa_nil))))))), ?_⟩
    walk_at "r"
    refine r_lnL hS ?_
    walk_at "r"
    generalize hk : (if (1 : Int) < (if (xs.length : Int) < m then (xs.length : Int) else m) then (if (xs.length : Int) < m then (xs.length : Int) else m) else 1) = k
    have k1 : 1 ≤ k ∧ k ≤ 10 := by
      subst hk
      split <;> split <;> omega
    refine ⟨RgOk.of_le (by decide) (by omega) (by decide) (by omega), fun p hp => ?_⟩
    refine q _ p k.toNat (same_new hp) (by omega) ?_
    rw [upd_same]
    unfold rgV
    congr 2
    simp

def sp_LisN (n : Nat) (K : PySem.W.Frag) : Sp := fun vs H Q _ => ∃ x y : V, vs = [x, y] ∧ Eqv K H false n x y ∧ ∀ H', Same H H' → Q (.bl true) H'
theorem ok_Lis0 (T : Txt K mg) : Ok P w K mg base CX0 (1) "_law_is" s_Lis ["told", "due"] (sp_LisN 0 K) := by
  obtain ⟨fd, D⟩ := T.d_Lis
  refine ⟨⟨_, fd, T.g__law_is, D, D.bindsN (fun _ _ _ _ _ _ us hl => match us, hl with | [_, _], _ => rfl), ?_⟩⟩
  refine D.ok sc_Lis (fun vs H Q E h => ?_) (fun cdv A outer s H vs Q E hr h => ?_)
  · obtain ⟨x, y, rfl, h, q⟩ := h
    rfl
  · obtain ⟨x, y, rfl, h, q⟩ := h
    refine ⟨_, PSs.nox (pss_cons (ps_if (pt_val (pe_callB call_isi (by rfl) T.z_isinstance (by decide +kernel) (pa_cons (pv 1) (pa_cons (pe_bltn (v := .ty "tuple") (by rfl) T.z_tuple (by decide +kernel) rfl) pa_nil))))
        (pss_cons ps_never
      (pss_one ps_never))
        pss_nil)
      (pss_cons (ps_if (pt_val (pe_callB call_isi (by rfl) T.z_isinstance (by decide +kernel) (pa_cons (pv 1) (pa_cons (pe_bltn (v := .ty "int") (by rfl) T.z_int (by decide +kernel) rfl) pa_nil))))
        (pss_one (ps_ret (pe_and (pe_callB call_isi (by rfl) T.z_isinstance (by decide +kernel) (pa_cons (pv 0) (pa_cons (pe_bltn (v := .ty "int") (by rfl) T.z_int (by decide +kernel) rfl) pa_nil))) (pe_and (pe_not (pe_callB call_isi (by rfl) T.z_isinstance (by decide +kernel) (pa_cons (pv 0) (pa_cons (pe_bltn (v := .ty "bool") (by rfl) T.z_bool (by decide +kernel) rfl) pa_nil)))) (pe_one (pe_cmpR op_eq (pv 0) (pv 1) (nomark _)))))))
        pss_nil)
      (pss_one (ps_ret (pe_ifExp (pt_val (pe_callB call_isi (by rfl) T.z_isinstance (by decide +kernel) (pa_cons (pv 1) (pa_cons (pe_bltn (v := .ty "str") (by rfl) T.z_str (by decide +kernel) rfl) pa_nil)))) (pe_and (pe_callB call_isi (by rfl) T.z_isinstance (by decide +kernel) (pa_cons (pv 0) (pa_cons (pe_bltn (v := .ty "str") (by rfl) T.z_str (by decide +kernel) rfl) pa_nil))) (pe_one (pe_cmpR op_eq (pv 0) (pv 1) (nomark _)))) (pe_cmpR o_isN (pv 0) pe_non (nomark _))))))), ?_⟩
    rcases h with ⟨i, rfl, rfl⟩ | ⟨l, rfl, rfl⟩ | ⟨rfl, rfl⟩ | ⟨hb, _⟩
    · walk_at "r"
      rw [decide_eq_true rfl]
      exact q _ (Same.refl _)
    · walk_at "r"
      rw [decide_eq_true rfl]
      exact q _ (Same.refl _)
    · walk_at "r"
      rw [decide_eq_true rfl]
      exact q _ (Same.refl _)
    · cases hb
theorem ok_LisS {m : Nat} (F_Lis : Ok P w K mg base CX0 (m + 1) "_law_is" s_Lis ["told", "due"] (sp_LisN m K)) (T : Txt K mg) : Ok P w K mg base CX0 (m + 1 + 1) "_law_is" s_Lis ["told", "due"] (sp_LisN (m + 1) K) := by
  obtain ⟨fd, D⟩ := T.d_Lis
  refine ⟨⟨_, fd, T.g__law_is, D, D.bindsN (fun _ _ _ _ _ _ us hl => match us, hl with | [_, _], _ => rfl), ?_⟩⟩
  refine D.ok sc_Lis (fun vs H Q E h => ?_) (fun cdv A outer s H vs Q E hr h => ?_)
  · obtain ⟨x, y, rfl, h, q⟩ := h
    rfl
  · obtain ⟨x, y, rfl, h, q⟩ := h
    refine ⟨_, PSs.nox (pss_cons (ps_if (pt_val (pe_callB call_isi (by rfl) T.z_isinstance (by decide +kernel) (pa_cons (pv 1) (pa_cons (pe_bltn (v := .ty "tuple") (by rfl) T.z_tuple (by decide +kernel) rfl) pa_nil))))
        (pss_cons (ps_set (i := 2) sc_Lis.nd rfl (by first | exact Or.inl rfl | exact Or.inr rfl) (pe_and (pe_callB call_isi (by rfl) T.z_isinstance (by decide +kernel) (pa_cons (pv 0) (pa_cons (pe_bltn (v := .ty "tuple") (by rfl) T.z_tuple (by decide +kernel) rfl) pa_nil))) (pe_one (pe_cmpR op_eq (pe_callB k_lnQ (by rfl) T.z_len (by decide +kernel) (pa_cons (pv 0) pa_nil)) (pe_callB k_lnQ (by rfl) T.z_len (by decide +kernel) (pa_cons (pv 1) pa_nil)) (nomark _)))))
      (pss_one (ps_ret (pe_and (pv 2) (pe_one (pe_callB (cr_all rfl) (by rfl) T.z_all (by decide +kernel) (pa_cons (pe_lc (own := [("one", 3), ("other", 4)]) (g := gTup K 2 (gCons (gName 3) (gCons (gName 4) gNil))) (tt := tYes) rfl sc_Lis.nd (RZ.pi_zipA (by rfl) T.z_zip (pa_cons (pv 0) (pa_cons (pv 1) pa_nil))) (blkOk_by (N := ["told", "due", "is_fit", "one", "other"]) (sc := defScope s_Lis) (by decide +kernel)) (fun _ _ _ _ _ => (pg_tup rfl (pgs_cons (pg_name (i := 3) sc_Lis.nd rfl (by first | exact Or.inl rfl | exact Or.inr rfl)) (pgs_cons (pg_name (i := 4) sc_Lis.nd rfl (by first | exact Or.inl rfl | exact Or.inr rfl)) pgs_nil)))) (fun _ _ _ _ _ => pts_nil) (fun _ _ _ _ _ => (pe_cl F_Lis hr (by rfl) pass0 (pa_cons (pv 3) (pa_cons (pv 4) pa_nil)) (hj := Nat.le_refl _)))) pa_nil)))))))
        pss_nil)
      (pss_cons (ps_if (pt_val (pe_callB call_isi (by rfl) T.z_isinstance (by decide +kernel) (pa_cons (pv 1) (pa_cons (pe_bltn (v := .ty "int") (by rfl) T.z_int (by decide +kernel) rfl) pa_nil))))
        (pss_one (ps_ret (pe_and (pe_callB call_isi (by rfl) T.z_isinstance (by decide +kernel) (pa_cons (pv 0) (pa_cons (pe_bltn (v := .ty "int") (by rfl) T.z_int (by decide +kernel) rfl) pa_nil))) (pe_and (pe_not (pe_callB call_isi (by rfl) T.z_isinstance (by decide +kernel) (pa_cons (pv 0) (pa_cons (pe_bltn (v := .ty "bool") (by rfl) T.z_bool (by decide +kernel) rfl) pa_nil)))) (pe_one (pe_cmpR op_eq (pv 0) (pv 1) (nomark _)))))))
        pss_nil)
      (pss_one (ps_ret (pe_ifExp (pt_val (pe_callB call_isi (by rfl) T.z_isinstance (by decide +kernel) (pa_cons (pv 1) (pa_cons (pe_bltn (v := .ty "str") (by rfl) T.z_str (by decide +kernel) rfl) pa_nil)))) (pe_and (pe_callB call_isi (by rfl) T.z_isinstance (by decide +kernel) (pa_cons (pv 0) (pa_cons (pe_bltn (v := .ty "str") (by rfl) T.z_str (by decide +kernel) rfl) pa_nil))) (pe_one (pe_cmpR op_eq (pv 0) (pv 1) (nomark _)))) (pe_cmpR o_isN (pv 0) pe_non (nomark _))))))), ?_⟩
    rcases h with h | ⟨a, b, xs, ys, rfl, rfl, ha, hb, hl, hz, hi⟩
    · rcases h with ⟨i, rfl, rfl⟩ | ⟨l, rfl, rfl⟩ | ⟨rfl, rfl⟩ | ⟨hb, _⟩
      · walk_at "r"
        rw [decide_eq_true rfl]
        exact q _ (Same.refl _)
      · walk_at "r"
        rw [decide_eq_true rfl]
        exact q _ (Same.refl _)
      · walk_at "r"
        rw [decide_eq_true rfl]
        exact q _ (Same.refl _)
      · cases hb
    · walk_at "r"
      refine r_isiT hb (b := true) (by decide +kernel) ?_
      walk_at "r"
      refine r_isiT ha (b := true) (by decide +kernel) ?_
      walk_at "r"
      refine r_lnU ha ?_
      walk_at "r"
      refine r_lnU hb ?_
      walk_at "r"
      refine r_yesD (by rw [hl]) ?_
      walk_at "r"
      refine ⟨a, b, xs, ys, rfl, .inr ⟨ha, hb, fun D hD => ?_⟩⟩
      refine lc_acc (n := xs.length) (fun _ H' => Same H H') (fun _ v => v = .bl true) hz (same_new hD) (fun i H' acc acc' e _ => Same.mut e hD) (fun i H' hi' e => ?_) (fun H' e => ?_) ?_ ?_
      · obtain ⟨x, hx⟩ : ∃ x, xs[i]? = some x := ⟨xs[i], List.getElem?_eq_getElem hi'⟩
        obtain ⟨y, hy⟩ : ∃ y, ys[i]? = some y := ⟨ys[i], List.getElem?_eq_getElem (by omega)⟩
        exact ⟨xs, ys, x, y, Same.sqt e ha, Same.sqt e hb, hx, hy⟩
      · exact ⟨xs, ys, Same.sqt e ha, Same.sqt e hb, .inl (Nat.le_refl _)⟩
      · rintro i v H' H2 acc hi' e hacc ⟨T2, x, y, rfl, hT, rfl, f1, f2⟩ R hR
        have ex := f1 _ (Same.sqt e ha)
        have ey := f2 _ (Same.sqt e hb)
        refine r_gTup (SqT.of upd_same) rfl ?_
        walk_at "r"
        refine ⟨rfl, ?_⟩
        walk_at "r"
        have e2 := e.trans (same_new hT (o := .tup [x, y]))
        exact ⟨x, y, rfl, (hi i x y ex ey).same e2, fun H4 e4 => hR _ _ (e4 _ _ (same_new hT _ _ hacc)) rfl (e2.trans e4)⟩
      · intro H' acc hl2 hv hacc e
        walk_at "r"
        rw [all_true hl2 hv] at hacc
        exact r_allT hacc (q _ e)
theorem ok_Lis (T : Txt K mg) : ∀ n, Ok P w K mg base CX0 (n + 1) "_law_is" s_Lis ["told", "due"] (sp_LisN n K)
  | 0 => ok_Lis0 T
  | n + 1 => ok_LisS (ok_Lis T n) T

def sp_Lis_int (K : PySem.W.Frag) : Sp := fun vs H Q _ => ∃ v lo hi : Int, vs = [.int v, .int lo, .int hi] ∧ Q (.bl (decide (lo ≤ v ∧ v ≤ hi))) H
theorem ok_Lis_int (T : Txt K mg) : Ok P w K mg base CX0 (1) "_law_is_int" s_Lis_int ["value", "low", "high"] (sp_Lis_int K) := by
  obtain ⟨fd, D⟩ := T.d_Lis_int
  refine ⟨⟨_, fd, T.g__law_is_int, D, D.bindsN (fun _ _ _ _ _ _ us hl => match us, hl with | [_, _, _], _ => rfl), ?_⟩⟩
  refine D.ok sc_Lis_int (fun vs H Q E h => ?_) (fun cdv A outer s H vs Q E hr h => ?_)
  · obtain ⟨v, lo, hi, rfl, q⟩ := h
    rfl
  · obtain ⟨v, lo, hi, rfl, q⟩ := h
    refine ⟨_, PSs.nox (pss_one (ps_ret (pe_and (pe_callB call_isi (by rfl) T.z_isinstance (by decide +kernel) (pa_cons (pv 0) (pa_cons (pe_bltn (v := .ty "int") (by rfl) T.z_int (by decide +kernel) rfl) pa_nil))) (pe_and (pe_not (pe_callB call_isi (by rfl) T.z_isinstance (by decide +kernel) (pa_cons (pv 0) (pa_cons (pe_bltn (v := .ty "bool") (by rfl) T.z_bool (by decide +kernel) rfl) pa_nil)))) (pe_one (pe_chain op_le op_le (pv 1) (pv 0) (pv 2))))))), ?_⟩
    walk_at "r"
    refine r_dec (fun h => ?_) (fun h => ?_)
    · walk_at "r"
      rw [show decide (v ≤ hi) = decide (lo ≤ v ∧ v ≤ hi) by simp [h]]
      exact q
    · rw [show decide (lo ≤ v ∧ v ≤ hi) = false by simp [h]] at q
      exact q
def sp_Lpower (K : PySem.W.Frag) : Sp := fun vs H Q _ => ∃ n : Nat, vs = [.int n] ∧ n ≤ 1000000 ∧ Q (.int (3 ^ n)) H
theorem ok_Lpower (T : Txt K mg) : Ok P w K mg base CX0 (1) "_law_power" s_Lpower ["many"] (sp_Lpower K) := by
  obtain ⟨fd, D⟩ := T.d_Lpower
  refine ⟨⟨_, fd, T.g__law_power, D, D.bindsN (fun _ _ _ _ _ _ us hl => match us, hl with | [_], _ => rfl), ?_⟩⟩
  refine D.ok sc_Lpower (fun vs H Q E h => ?_) (fun cdv A outer s H vs Q E hr h => ?_)
  · obtain ⟨n, rfl, hn, q⟩ := h
    rfl
  · obtain ⟨n, rfl, hn, q⟩ := h
    refine ⟨_, PSs.nox (pss_cons (ps_set (i := 1) sc_Lpower.nd rfl (by first | exact Or.inl rfl | exact Or.inr rfl) pe_int)
      (pss_cons (ps_for PassesOwn.never rfl (pi_range1 (by rfl) T.z_range (pa_cons (pv 0) pa_nil)) (pg_name (i := 2) sc_Lpower.nd rfl (by first | exact Or.inl rfl | exact Or.inr rfl))
        (pss_one (ps_set (i := 1) sc_Lpower.nd rfl (by first | exact Or.inl rfl | exact Or.inr rfl) (pe_op op_mul pe_int (pv 1)))))
      (pss_one (ps_ret (pv 1))))), ?_⟩
    walk_at "r"
    refine ⟨_, rfl, by omega, by omega, for_range (n := n) (fun i σ H' => ∃ y, σ = [some (.int n), some (.int (3 ^ i)), y] ∧ H' = H) ⟨_, rfl, rfl⟩ ?_ ?_⟩
    · rintro i σ H' hi ⟨y, rfl, rfl⟩
      walk_at "r"
      refine r_I (.inl ⟨by decide, by decide⟩) ?_
      walk_at "r"
      exact ⟨_, by rw [Int.pow_succ, Int.mul_comm]; rfl, rfl⟩
    · rintro σ H' ⟨y, rfl, rfl⟩
      walk_at "r"
      exact q
def sp_Lheard_numbers (K : PySem.W.Frag) : Sp := fun vs H Q _ => ∃ l : List Nat, vs = [.str (S l)] ∧ Wd l ∧ l.length ≤ 1000000 ∧ ∀ H' t, Same H H' → H t = none → H' t = some (.tup [.int (nu (pl l)).1, .int (nu (pl l)).2]) → Q (.ref t) H'
theorem ok_Lheard_numbers (T : Txt K mg) : Ok P w K mg base CX0 (1) "_law_heard_numbers" s_Lheard_numbers ["word"] (sp_Lheard_numbers K) := by
  obtain ⟨fd, D⟩ := T.d_Lheard_numbers
  refine ⟨⟨_, fd, T.g__law_heard_numbers, D, D.bindsN (fun _ _ _ _ _ _ us hl => match us, hl with | [_], _ => rfl), ?_⟩⟩
  refine D.ok sc_Lheard_numbers (fun vs H Q E h => ?_) (fun cdv A outer s H vs Q E hr h => ?_)
  · obtain ⟨l, rfl, hw, hl, q⟩ := h
    rfl
  · obtain ⟨l, rfl, hw, hl, q⟩ := h
    refine ⟨_, PSs.nox (pss_cons (ps_asg (pe_tup (pa_cons pe_int (pa_cons pe_int pa_nil))) (pg_tup rfl (pgs_cons (pg_name (i := 2) sc_Lheard_numbers.nd rfl (by first | exact Or.inl rfl | exact Or.inr rfl)) (pgs_cons (pg_name (i := 3) sc_Lheard_numbers.nd rfl (by first | exact Or.inl rfl | exact Or.inr rfl)) pgs_nil))))
      (pss_cons (ps_for PassesOwn.never rfl (pi_str (pv 0)) (pg_name (i := 1) sc_Lheard_numbers.nd rfl (by first | exact Or.inl rfl | exact Or.inr rfl))
        (pss_cons (ps_set (i := 4) sc_Lheard_numbers.nd rfl (by first | exact Or.inl rfl | exact Or.inr rfl) (pe_tup (pa_cons (pv 2) (pa_cons (pv 3) pa_nil))))
      (pss_cons (ps_set (i := 2) sc_Lheard_numbers.nd rfl (by first | exact Or.inl rfl | exact Or.inr rfl) (pe_ifExp (pt_cmpR op_eq (pv 1) (pe_strS [115] (by rfl)) (nomark _)) (pe_op op_mul pe_int (pv 2)) (pe_op op_add (pv 2) (pe_op op_mul pe_int (pe_ix ix_tup (pv 4) pe_int (fun _ _ => rfl))))))
      (pss_one (ps_set (i := 3) sc_Lheard_numbers.nd rfl (by first | exact Or.inl rfl | exact Or.inr rfl) (pe_ifExp (pt_cmpR op_eq (pv 1) (pe_strS [102] (by rfl)) (nomark _)) (pe_op op_mul pe_int (pv 3)) (pe_op op_add (pv 3) (pe_op op_mul pe_int (pe_ix ix_tup (pv 4) pe_int (fun _ _ => rfl))))))))))
      (pss_one (ps_ret (pe_tup (pa_cons (pv 2) (pa_cons (pv 3) pa_nil))))))), ?_⟩
    walk_at "r"
    refine ⟨by show 2 ≤ sizeLine; decide, fun p hp => ?_⟩
    refine r_gTup (SqT.of upd_same) rfl ?_
    walk_at "r"
    refine ⟨_, rfl, for_S (l := l) (fun i σ H' => ∃ y z, σ = [some (.str (S l)), y, some (.int (nu (pl (l.take i))).1), some (.int (nu (pl (l.take i))).2), z] ∧ Same H H') ⟨_, _, rfl, same_new hp⟩ ?_ ?_⟩
    · rintro i c σ H' e ⟨y, z, rfl, e1⟩
      have hc := hw.get e
      have hst := hst_nu (pl (l.take i)) hc
      rw [← pl_snoc, ← take_snoc e] at hst
      generalize nu (pl (l.take i)) = ab at hst ⊢
      obtain ⟨a, b⟩ := ab
      walk_at "r"
      refine ⟨by show 2 ≤ sizeLine; decide, fun t ht => ?_⟩
      have e2 := e1.trans (same_new ht (o := .tup [.int a, .int b]))
      have ht2 : SqT K (upd H' t (.tup [.int a, .int b])) t [.int a, .int b] := SqT.of upd_same
      generalize upd H' t (.tup [.int a, .int b]) = H2 at e2 ht2 ⊢
      walk_at "rs"
      refine r_cut (fun x H3 => x = .int (if c = 115 then 3 * a else a + 2 * b) ∧ H3 = H2) ?_ fun R fin => ?_
      · rintro x H3 ⟨rfl, rfl⟩
        walk_at "rs"
        refine r_cut (fun x H4 => x = .int (if c = 102 then 3 * b else b + 2 * a) ∧ H4 = H3) ?_ fun R fin => ?_
        · rintro x H4 ⟨rfl, rfl⟩
          walk_at "r"
          exact ⟨some (.str (S [c])), some (.ref t), by rw [← hst]; rfl, e2⟩
        · walk_at "r"
          refine r_dec (fun h => ?_) (fun h => ?_)
          · have hc2 : c = 102 := by simpa using S_iff.mp h
            walk_at "r"
            refine r_I (.inl ⟨by decide, by decide⟩) ?_
            exact fin _ _ ⟨by rw [if_pos hc2], rfl⟩
          · have hc2 : ¬ c = 102 := fun z => h (by rw [z])
            walk_at "r"
            refine r_ixT ht2 rfl ?_
            refine r_I (.inl ⟨by decide, by decide⟩) ?_
            walk_at "r"
            exact fin _ _ ⟨by rw [if_neg hc2], rfl⟩
      · walk_at "r"
        refine r_dec (fun h => ?_) (fun h => ?_)
        · have hc2 : c = 115 := by simpa using S_iff.mp h
          walk_at "r"
          refine r_I (.inl ⟨by decide, by decide⟩) ?_
          exact fin _ _ ⟨by rw [if_pos hc2], rfl⟩
        · have hc2 : ¬ c = 115 := fun z => h (by rw [z])
          walk_at "r"
          refine r_ixT ht2 rfl ?_
          refine r_I (.inl ⟨by decide, by decide⟩) ?_
          walk_at "r"
          exact fin _ _ ⟨by rw [if_neg hc2], rfl⟩
    · rintro σ H' ⟨y, z, rfl, e1⟩
      rw [List.take_length]
      walk_at "r"
      exact ⟨by show 2 ≤ sizeLine; decide, fun t ht => q _ t (e1.trans (same_new ht)) (e1.free ht) upd_same⟩
def sp_Lword (K : PySem.W.Frag) : Sp := fun vs H Q _ => ∃ (a : Addr) (c : Int), vs = [.ref a] ∧ PotAt H a c ∧ c ≤ 900000 ∧ ∀ H' l, But a H H' → PotAt H' a (c + 100) → Wd l → l.length ≤ 200 → Q (.str (S l)) H'
theorem ok_Lword (T : Txt K mg) : Ok P w K mg base CX0 (3) "_law_word" s_Lword ["pot"] (sp_Lword K) := by
  obtain ⟨fd, D⟩ := T.d_Lword
  refine ⟨⟨_, fd, T.g__law_word, D, D.bindsN (fun _ _ _ _ _ _ us hl => match us, hl with | [_], _ => rfl), ?_⟩⟩
  refine D.ok sc_Lword (fun vs H Q E h => ?_) (fun cdv A outer s H vs Q E hr h => ?_)
  · obtain ⟨a, c, rfl, hP, hc, q⟩ := h
    rfl
  · obtain ⟨a, c, rfl, hP, hc, q⟩ := h
    have F_Lof := ok_Lof (P := P) (w := w) (K := K) (mg := mg) (base := base) T
    have F_Ltake := ok_Ltake (P := P) (w := w) (K := K) (mg := mg) (base := base) T
    refine ⟨_, PSs.nox (pss_cons (ps_par (i := 1) (j := 2) (by rfl) sc_Lword.nd rfl rfl (by decide) rfl rfl (pa_cons (pe_cl F_Lof hr (by rfl) pass0 (pa_cons (pv 0) (pa_cons (pe_lst (pa_cons pe_int (pa_cons pe_int (pa_cons pe_int (pa_cons pe_int (pa_cons pe_int (pa_cons pe_int (pa_cons pe_int pa_nil)))))))) pa_nil))) (pa_cons (pe_cl F_Lof hr (by rfl) pass0 (pa_cons (pv 0) (pa_cons (pe_callTy (call_list_txt rfl) (by rfl) T.z_list (by decide +kernel) (pa_cons (pe_strS [110, 102, 115] (by rfl)) pa_nil)) pa_nil))) pa_nil)) (by rfl))
      (pss_cons (ps_par (i := 3) (j := 4) (by rfl) sc_Lword.nd rfl rfl (by decide) rfl rfl (pa_cons (pe_op op_mul_str (pv 2) (pv 1)) (pa_cons (pe_cl F_Ltake hr (by rfl) pass0 (pa_cons (pv 0) (pa_cons pe_int pa_nil))) pa_nil)) (by rfl))
      (pss_cons (ps_if (pt_cmpR op_eq (pv 4) pe_int (nomark _))
        (pss_one (ps_ret (pv 3)))
        pss_nil)
      (pss_cons (ps_if (PW.pt (pw_and (pt_cmpR op_eq (pv 4) pe_int (nomark _)) (pw_and1 (pt_cmpR op_gt (pv 1) pe_int (nomark _)))))
        (pss_cons (ps_set (i := 5) sc_Lword.nd rfl (by first | exact Or.inl rfl | exact Or.inr rfl) (pe_cl F_Ltake hr (by rfl) pass0 (pa_cons (pv 0) (pa_cons (pv 1) pa_nil))))
      (pss_one (ps_ret (pe_op o_addS (pe_op o_addS (pe_slice sl_str (pv 3) po_none (po_some (pv 5))) (pe_cl F_Lof hr (by rfl) pass0 (pa_cons (pv 0) (pa_cons (pe_callTy (call_list_txt rfl) (by rfl) T.z_list (by decide +kernel) (pa_cons (pe_strS [110, 102, 115] (by rfl)) pa_nil)) pa_nil)))) (pe_slice sl_str (pv 3) (po_some (pe_op op_add (pv 5) pe_int)) po_none)))))
        pss_nil)
      (pss_one (ps_ret (pe_slice sl_str (pe_op op_mul_str (pe_jn (pe_strS [] (by rfl)) (pe_lc (own := [("lap", 6)]) (g := gName 6) (tt := tYes) rfl sc_Lword.nd (pi_range1 (by rfl) T.z_range (pa_cons (pe_callB (k_min2 rfl) (by rfl) T.z_min (by decide +kernel) (pa_cons (pv 1) (pa_cons pe_int pa_nil))) pa_nil)) (blkOk_by (N := ["pot", "many", "letter", "word", "way", "at", "lap"]) (sc := defScope s_Lword) (by decide +kernel)) (fun _ _ _ _ _ => (pg_name (i := 6) sc_Lword.nd rfl (by first | exact Or.inl rfl | exact Or.inr rfl))) (fun _ _ _ _ _ => pts_nil) (fun _ _ _ _ _ => (pe_cl F_Lof hr (by rfl) pass0 (pa_cons (pv 0) (pa_cons (pe_callTy (call_list_txt rfl) (by rfl) T.z_list (by decide +kernel) (pa_cons (pe_strS [110, 102, 115] (by rfl)) pa_nil)) pa_nil)))))) pe_int) po_none (po_some (pv 1))))))))), ?_⟩
    walk_at "r"
    refine ⟨by show 7 ≤ sizeLine; decide, fun p hp => ?_⟩
    walk_at "r"
    refine ⟨a, p, _, c, rfl, hP.new hp, by omega, SqL.of upd_same, hP.fresh hp, by decide, by decide, fun H1 x b1 P1 hx => ?_⟩
    obtain ⟨m, rfl, hm⟩ : ∃ m : Nat, x = .int (m : Int) ∧ m ≤ 200 := by
      simp only [List.mem_cons, List.not_mem_nil, or_false] at hx
      rcases hx with rfl | rfl | rfl | rfl | rfl | rfl | rfl
      · exact ⟨0, rfl, by decide⟩
      · exact ⟨1, rfl, by decide⟩
      · exact ⟨2, rfl, by decide⟩
      · exact ⟨5, rfl, by decide⟩
      · exact ⟨12, rfl, by decide⟩
      · exact ⟨40, rfl, by decide⟩
      · exact ⟨200, rfl, by decide⟩
    have b1' : But a H H1 := (But.of (same_new hp)).trans b1
    walk_at "r"
    refine r_listS (l := [110, 102, 115]) (by decide) fun p2 hp2 => ?_
    walk_at "r"
    refine ⟨a, p2, _, c + 1, rfl, P1.new hp2, by omega, SqL.of upd_same, P1.fresh hp2, by decide, by decide, fun H2 y b2 P2 hy => ?_⟩
    obtain ⟨ch, rfl, hch⟩ := fate_of hy
    have b2' : But a H H2 := (b1'.trans (But.of (same_new hp2))).trans b2
    walk_at "r"
    refine ⟨_, _, rfl, ?_⟩
    walk_at "r"
    refine r_mulS (by simp; omega) (by omega) ?_
    walk_at "r"
    refine ⟨a, 4, c + 1 + 1, rfl, P2, by omega, by decide, by decide, fun H3 d b3 P3 d0 d1 => ?_⟩
    have b3' := b2'.trans b3
    have hw : Wd (List.replicate m [ch]).flatten := Wd.rep (fun x hx => by rw [List.mem_singleton.mp hx]; exact hch) m
    have hlen : (List.replicate m [ch]).flatten.length = m := by simp
    generalize (List.replicate m [ch]).flatten = wd at hw hlen ⊢
    walk_at "r"
    refine ⟨_, _, rfl, ?_⟩
    walk_at "r"
    refine r_dec (fun h => ?_) (fun h => ?_)
    · walk_at "r"
      exact q _ _ b3' (P3.mono (by omega)) hw (by omega)
    walk_at "rs"
    refine s_cut (fun σ' H' => σ' = [some (.ref a), some (.int m), some (.str (S [ch])), some (.str (S wd)), some (.int d), none, none] ∧ H' = H3) ?_ fun N fin => ?_
    · rintro σ' G ⟨rfl, rfl⟩
      walk_at "r"
      refine ⟨⟨_, rfl⟩, ?_⟩
      walk_at "r"
      obtain ⟨n, hn, hn2⟩ : ∃ n : Nat, (if (30 : Int) < (m : Int) then 30 else (m : Int)) = (n : Int) ∧ n ≤ 30 := by
        split
        · exact ⟨30, rfl, by decide⟩
        · exact ⟨m, rfl, by omega⟩
      rw [hn]
      refine ⟨_, rfl, by omega, by omega, fun D hD => ?_⟩
      refine lc_acc (n := n) (fun i G' => But a G G' ∧ PotAt G' a (c + 3 + i)) (fun _ v => ∃ c : Nat, v = .str (S [c]) ∧ (c = 110 ∨ c = 102 ∨ c = 115)) (by omega) ?_ (fun i G' acc acc' e h3 => ?_) (fun i G' hi e => hi) (fun G' e => Nat.le_refl _) ?_ ?_
      · exact ⟨But.of (same_new hD), (P3.new hD).mono (by omega)⟩
      · exact ⟨e.1.mut hD, e.2.ne (P3.fresh hD)⟩
      · rintro i v G' G2 acc hi ⟨e, Pe⟩ hacc ⟨rfl, rfl⟩ R hR
        walk_at "r"
        refine ⟨rfl, ?_⟩
        walk_at "r"
        refine r_listS (l := [110, 102, 115]) (by decide) fun p5 hp5 => ?_
        walk_at "r"
        refine ⟨a, p5, _, _, rfl, Pe.new hp5, by omega, SqL.of upd_same, Pe.fresh hp5, by decide, by decide, fun G3 x b P5 hx => ?_⟩
        have hDa : D ≠ a := P3.fresh hD
        exact hR _ _ (b _ _ hDa (same_new hp5 _ _ hacc)) (fate_of hx) ⟨(e.trans (But.of (same_new hp5))).trans b, P5.mono (by omega)⟩
      · rintro G' acc hl hv hacc ⟨e, Pe⟩
        obtain ⟨l, rfl, hwl, hll⟩ := chars_of hv
        refine r_joinC (SqL.of hacc) (by rw [hll, hl]; omega) ?_
        walk_at "r"
        refine r_mulS (n := 7) (by rw [hll, hl]; omega) (by decide) ?_
        walk_at "r"
        refine r_slS ?_ ?_
        · have : (List.replicate 7 l).flatten.length = 7 * l.length := by simp; omega
          rw [this, hll, hl]
          omega
        · rw [cut_take]
          exact q _ _ (b3'.trans e) (Pe.mono (by omega)) ((Wd.rep hwl 7).take m) (by rw [List.length_take]; omega)
    · walk_at "r"
      refine r_dec (fun h1 => ?_) (fun h1 => ?_)
      · walk_at "r"
        refine r_dec (fun h2 => ?_) (fun h2 => ?_)
        · walk_at "r"
          refine ⟨a, m, c + 1 + 1 + 1, rfl, P3, by omega, by omega, by omega, fun H4 e b4 P4 e0 e1 => ?_⟩
          obtain ⟨k, rfl⟩ := Int.eq_ofNat_of_zero_le e0
          walk_at "r"
          refine r_slS (by omega) ?_
          rw [cut_to (by omega)]
          walk_at "r"
          refine r_listS (l := [110, 102, 115]) (by decide) fun p3 hp3 => ?_
          walk_at "r"
          refine ⟨a, p3, _, _, rfl, P4.new hp3, by omega, SqL.of upd_same, P4.fresh hp3, by decide, by decide, fun H5 z b5 P5 hz => ?_⟩
          obtain ⟨c2, rfl, hc2⟩ := fate_of hz
          refine r_addS (by simp; omega) ?_
          walk_at "r"
          refine r_slS (by omega) ?_
          rw [show ((k : Int) + 1) = ((k + 1 : Nat) : Int) by omega, cut_from (by omega)]
          refine r_addS (by simp; omega) ?_
          refine q _ _ (((b3'.trans b4).trans (But.of (same_new hp3))).trans b5) (P5.mono (by omega)) (((hw.take _).app ?_).app (hw.drop _)) ?_
          · intro x hx
            rw [List.mem_singleton.mp hx]
            exact hc2
          · simp only [List.length_append, List.length_take, List.length_drop, List.length_cons, List.length_nil]
            omega
        · walk_at "r"
          exact fin _ _ ⟨rfl, rfl⟩
      · walk_at "r"
        exact fin _ _ ⟨rfl, rfl⟩
def sp_Lis_right (K : PySem.W.Frag) : Sp := fun vs H Q _ => ∃ l : List Nat, vs = [.str (S l)] ∧ Wd l ∧ l.length ≤ 200 ∧ ∀ H', Same H H' → Q (.bl true) H'
theorem ok_Lis_right (T : Txt K mg) : Ok P w K mg base CX0 (6) "_law_is_right" s_Lis_right ["word"] (sp_Lis_right K) := by
  obtain ⟨fd, D⟩ := T.d_Lis_right
  refine ⟨⟨_, fd, T.g__law_is_right, D, D.bindsN (fun _ _ _ _ _ _ us hl => match us, hl with | [_], _ => rfl), ?_⟩⟩
  refine D.ok sc_Lis_right (fun vs H Q E h => ?_) (fun cdv A outer s H vs Q E hr h => ?_)
  · obtain ⟨l, rfl, hw, hl, q⟩ := h
    rfl
  · obtain ⟨l, rfl, hw, hl, q⟩ := h
    have F_Lheard_numbers := ok_Lheard_numbers (P := P) (w := w) (K := K) (mg := mg) (base := base) T
    have F_place := ok_place (P := P) (w := w) (K := K) (mg := mg) (base := base) T
    have F_Lis := ok_Lis (P := P) (w := w) (K := K) (mg := mg) (base := base) T 1
    have F_Lis_int := ok_Lis_int (P := P) (w := w) (K := K) (mg := mg) (base := base) T
    have F_Lpower := ok_Lpower (P := P) (w := w) (K := K) (mg := mg) (base := base) T
    have F_numbers := ok_numbers (P := P) (w := w) (K := K) (mg := mg) (base := base) T
    refine ⟨_, PSs.nox (pss_cons (ps_asg (pe_cl F_Lheard_numbers hr (by rfl) pass0 (pa_cons (pv 0) pa_nil)) (pg_tup rfl (pgs_cons (pg_name (i := 2) sc_Lis_right.nd rfl (by first | exact Or.inl rfl | exact Or.inr rfl)) (pgs_cons (pg_name (i := 3) sc_Lis_right.nd rfl (by first | exact Or.inl rfl | exact Or.inr rfl)) pgs_nil))))
      (pss_cons (ps_if (PW.pt (pw_or (pt_not (pt_val (pe_cl F_Lis hr (by rfl) pass0 (pa_cons (pe_clK0 F_numbers hr (by rfl) pass0 (fun _ _ D => kb_numbers_0_word D) (pk_cons (pv 0) pk_nil)) (pa_cons (pe_tup (pa_cons (pv 2) (pa_cons (pv 3) pa_nil))) pa_nil))))) (pw_or1 (pt_cmpR op_ne (pe_op op_mul (pe_op op_fdiv (pv 2) pe_int) pe_int) (pv 2) (nomark _)))))
        (pss_one (ps_ret pe_bl))
        pss_nil)
      (pss_cons (ps_set (i := 1) sc_Lis_right.nd rfl (by first | exact Or.inl rfl | exact Or.inr rfl) (pe_cl F_place hr (by rfl) pass0 (pa_cons (pv 0) pa_nil)))
      (pss_cons (ps_if (PW.pt (pw_or (pt_not (pt_val (pe_cl F_Lis_int hr (by rfl) pass0 (pa_cons (pv 1) (pa_cons (pe_callB (k_min2 rfl) (by rfl) T.z_min (by decide +kernel) (pa_cons (pv 2) (pa_cons (pv 3) pa_nil))) (pa_cons (pe_callB (k_min2 rfl) (by rfl) T.z_min (by decide +kernel) (pa_cons (pv 2) (pa_cons (pv 3) pa_nil))) pa_nil)))))) (pw_or1 (pt_cmpR op_ne (pe_callB (k_max2 rfl) (by rfl) T.z_max (by decide +kernel) (pa_cons (pv 2) (pa_cons (pv 3) pa_nil))) (pe_op op_add (pv 1) pe_int) (nomark _)))))
        (pss_one (ps_ret pe_bl))
        pss_nil)
      (pss_cons (ps_if (pt_cmpR op_ne (pe_cmpR op_eq (pv 2) pe_int (nomark _)) (pe_cmpR op_eq (pv 0) (pe_op op_mul_str (pe_strS [115] (by rfl)) (pe_callB k_lnS (by rfl) T.z_len (by decide +kernel) (pa_cons (pv 0) pa_nil))) (nomark _)) (nomark _))
        (pss_one (ps_ret pe_bl))
        pss_nil)
      (pss_one (ps_ret (pe_cmpR op_eq (pe_cmpR op_eq (pv 3) (pe_cl F_Lpower hr (by rfl) pass0 (pa_cons (pe_callB k_lnS (by rfl) T.z_len (by decide +kernel) (pa_cons (pv 0) pa_nil)) pa_nil)) (nomark _)) (pe_cmpR op_eq (pv 0) (pe_op op_mul_str (pe_strS [102] (by rfl)) (pe_callB k_lnS (by rfl) T.z_len (by decide +kernel) (pa_cons (pv 0) pa_nil))) (nomark _)) (nomark _))))))))), ?_⟩
    walk_at "r"
    refine ⟨l, rfl, hw, by omega, fun H1 t e1 ht h1 => ?_⟩
    refine r_gTup (SqT.of h1) rfl ?_
    walk_at "r"
    refine ⟨rfl, rfl, l, rfl, hw, hl, fun H2 t2 e2 h2 => ?_⟩
    walk_at "r"
    refine ⟨by show 2 ≤ sizeLine; decide, fun p hp => ?_⟩
    have e12 := e1.trans e2
    walk_at "r"
    refine ⟨_, _, rfl, Eqv.flat (SqT.of (same_new hp _ _ h2)) (SqT.of upd_same) (by show 2 ≤ 1000000; decide) (fun x hx => ?_), fun H3 e3 => ?_⟩
    · simp only [List.mem_cons, List.not_mem_nil, or_false] at hx
      rcases hx with rfl | rfl <;> exact .inl ⟨_, rfl, rfl⟩
    have e13 := (e12.trans (same_new hp (o := .tup [.int (nu (pl l)).1, .int (nu (pl l)).2]))).trans e3
    have p0 := pl_nn l
    have p1 := pl_lt l
    have pz := pl_zero l hw
    have pt := pl_top l hw
    have po := pow3_odd l.length
    have hn : (nu (pl l) = (pl l, pl l + 1) ∧ pl l % 2 = 0) ∨ (nu (pl l) = (pl l + 1, pl l) ∧ pl l % 2 = 1) := by
      unfold nu
      split
      · exact .inl ⟨rfl, by assumption⟩
      · exact .inr ⟨rfl, by omega⟩
    generalize hp3 : (3 : Int) ^ l.length = m3 at p1 pt po
    generalize hk : pl l = k at p0 p1 pz pt hn ⊢
    generalize nu k = ab at hn ⊢
    obtain ⟨a, b⟩ := ab
    have hab : (a = k ∧ b = k + 1 ∧ k % 2 = 0) ∨ (a = k + 1 ∧ b = k ∧ k % 2 = 1) := by
      rcases hn with ⟨h, h'⟩ | ⟨h, h'⟩
      · exact .inl ⟨(Prod.mk.inj h).1, (Prod.mk.inj h).2, h'⟩
      · exact .inr ⟨(Prod.mk.inj h).1, (Prod.mk.inj h).2, h'⟩
    clear hn
    walk_at "r"
    refine r_I ⟨by decide, by decide⟩ ?_
    walk_at "r"
    refine r_I (.inr ⟨by decide, by decide⟩) ?_
    walk_at "r"
    refine r_nyesD (congrArg V.int (by show a / 2 * 2 = a; omega)) ?_
    walk_at "r"
    refine ⟨l, rfl, hw, hl, fun H4 e4 => ?_⟩
    rw [hk]
    walk_at "r"
    refine ⟨k, _, _, rfl, ?_⟩
    rw [decide_eq_true (by show (if b < a then b else a) ≤ k ∧ k ≤ (if b < a then b else a); split <;> omega)]
    walk_at "r"
    refine r_nyesD (congrArg V.int (by show (if b > a then b else a) = k + 1; split <;> omega)) ?_
    walk_at "r"
    refine r_lnT (by omega) ?_
    refine r_mulS (by simp; omega) (by omega) ?_
    walk_at "r"
    have eS : (V.str (S l) = V.str (S (List.replicate l.length [115]).flatten)) ↔ k = 0 := by
      rw [S_iff, rep_one, pz]
    have eF : (V.str (S l) = V.str (S (List.replicate l.length [102]).flatten)) ↔ k = m3 - 1 := by
      rw [S_iff, rep_one, pt]
    refine r_nyesD (congrArg V.bl ?_) ?_
    · rw [decide_eq_decide, eS]
      show V.int a = V.int 0 ↔ k = 0
      rw [V.int.injEq]
      omega
    walk_at "r"
    refine r_lnT (by omega) ?_
    walk_at "r"
    refine ⟨l.length, rfl, by omega, ?_⟩
    rw [hp3]
    walk_at "r"
    refine r_lnT (by omega) ?_
    refine r_mulS (by simp; omega) (by omega) ?_
    walk_at "r"
    rw [decide_eq_true (congrArg V.bl ?_)]
    · exact q _ (e13.trans e4)
    · rw [decide_eq_decide, eF]
      show V.int b = V.int m3 ↔ k = m3 - 1
      rw [V.int.injEq]
      omega
def sp_Lright (K : PySem.W.Frag) : Sp := fun vs H Q _ => ∃ a : Addr, vs = [.ref a] ∧ PotAt H a 0 ∧ ∀ H', But a H H' → Q (.bl true) H'
theorem ok_Lright (T : Txt K mg) : Ok P w K mg base CX0 (7) "_law_right" s_Lright ["pot"] (sp_Lright K) := by
  obtain ⟨fd, D⟩ := T.d_Lright
  refine ⟨⟨_, fd, T.g__law_right, D, D.bindsN (fun _ _ _ _ _ _ us hl => match us, hl with | [_], _ => rfl), ?_⟩⟩
  refine D.ok sc_Lright (fun vs H Q E h => ?_) (fun cdv A outer s H vs Q E hr h => ?_)
  · obtain ⟨a, rfl, hP, q⟩ := h
    rfl
  · obtain ⟨a, rfl, hP, q⟩ := h
    have F_Lis_right := ok_Lis_right (P := P) (w := w) (K := K) (mg := mg) (base := base) T
    have F_Lword := ok_Lword (P := P) (w := w) (K := K) (mg := mg) (base := base) T
    refine ⟨_, PSs.nox (pss_one (ps_ret (pe_callB (cr_all rfl) (by rfl) T.z_all (by decide +kernel) (pa_cons (pe_lc (own := [("lap", 1)]) (g := gName 1) (tt := tYes) rfl sc_Lright.nd (pi_range1 (by rfl) T.z_range (pa_cons pe_int pa_nil)) (blkOk_by (N := ["pot", "lap"]) (sc := defScope s_Lright) (by decide +kernel)) (fun _ _ _ _ _ => (pg_name (i := 1) sc_Lright.nd rfl (by first | exact Or.inl rfl | exact Or.inr rfl))) (fun _ _ _ _ _ => pts_nil) (fun _ _ _ _ _ => (pe_cl F_Lis_right hr (by rfl) pass0 (pa_cons (pe_cl F_Lword hr (by rfl) pass0 (pa_cons (pv 0) pa_nil)) pa_nil)))) pa_nil)))), ?_⟩
    walk_at "r"
    refine ⟨10, rfl, by decide, by decide, fun D hD => ?_⟩
    refine lc_acc (n := 10) (fun i G' => But a H G' ∧ PotAt G' a (100 * i)) (fun _ v => v = .bl true) (by decide) ?_ (fun i G' acc acc' e h3 => ?_) (fun i G' hi e => hi) (fun G' e => Nat.le_refl _) ?_ ?_
    · exact ⟨But.of (same_new hD), hP.new hD⟩
    · exact ⟨e.1.mut hD, e.2.ne (hP.fresh hD)⟩
    · rintro i v G' G2 acc hi ⟨e, Pe⟩ hacc ⟨rfl, rfl⟩ R hR
      walk_at "r"
      refine ⟨rfl, ?_⟩
      walk_at "r"
      refine ⟨a, _, rfl, Pe, by omega, fun G3 l b P5 hw hl => ?_⟩
      walk_at "r"
      refine ⟨l, rfl, hw, hl, fun G4 e4 => ?_⟩
      have hDa : D ≠ a := hP.fresh hD
      exact hR _ _ (e4 _ _ (b _ _ hDa hacc)) rfl ⟨(e.trans b).trans (But.of e4), (P5.same e4).mono (by omega)⟩
    · rintro G' acc hl hv hacc ⟨e, Pe⟩
      walk_at "r"
      rw [all_true hl hv] at hacc
      exact r_allT hacc (q _ e)
def sp_law (K : PySem.W.Frag) : Sp := fun vs H Q _ => ∃ (a : Addr) (ns : List Int), vs = [.ref a] ∧ SqL K H a (ns.map V.int) ∧ ns.length ≤ 63 ∧ ∀ H', Q (.bl true) H'
theorem ok_law (T : Txt K mg) : Ok P w K mg base CX0 (8) "law" s_law ["script"] (sp_law K) := by
  obtain ⟨fd, D⟩ := T.d_law
  refine ⟨⟨_, fd, T.g_law, D, D.bindsN (fun _ _ _ _ _ _ us hl => match us, hl with | [_], _ => rfl), ?_⟩⟩
  refine D.ok sc_law (fun vs H Q E h => ?_) (fun cdv A outer s H vs Q E hr h => ?_)
  · obtain ⟨a, ns, rfl, hS, hlen, q⟩ := h
    rfl
  · obtain ⟨a, ns, rfl, hS, hlen, q⟩ := h
    have F_Lright := ok_Lright (P := P) (w := w) (K := K) (mg := mg) (base := base) T
    have F_Lpot := ok_Lpot (P := P) (w := w) (K := K) (mg := mg) (base := base) T
    have F_Lcells := ok_Lcells (P := P) (w := w) (K := K) (mg := mg) (base := base) T
    refine ⟨_, PSs.nox (pss_one (ps_ret (pe_callB (cr_all rfl) (by rfl) T.z_all (by decide +kernel) (pa_cons (pe_lc (own := [("at", 1)]) (g := gName 1) (tt := tYes) rfl sc_law.nd (pi_list (pe_cl F_Lcells hr (by rfl) pass0 (pa_cons (pv 0) (pa_cons pe_int pa_nil)))) (blkOk_by (N := ["script", "at"]) (sc := defScope s_law) (by decide +kernel)) (fun _ _ _ _ _ => (pg_name (i := 1) sc_law.nd rfl (by first | exact Or.inl rfl | exact Or.inr rfl))) (fun _ _ _ _ _ => pts_nil) (fun _ _ _ _ _ => (pe_cl F_Lright hr (by rfl) pass0 (pa_cons (pe_cl F_Lpot hr (by rfl) pass0 (pa_cons (pv 0) (pa_cons (pv 1) pa_nil))) pa_nil)))) pa_nil)))), ?_⟩
    walk_at "r"
    refine ⟨a, _, 2, rfl, hS, by decide, by decide, fun H1 p n e1 hn hp => ?_⟩
    refine ⟨p, rfl, ⟨_, SqL.of hp⟩, fun D hD => ?_⟩
    have hpD : p ≠ D := ne_of_none hp hD
    refine lc_acc (n := n) (fun i G' => Same H1 G') (fun _ v => v = .bl true) (by omega) (same_new hD) (fun i G' acc acc' e h3 => Same.mut e hD) (fun i G' hi e => ?_) (fun G' e => ?_) ?_ ?_
    · exact ⟨_, .int i, SqL.of (e _ _ hp), by rw [List.getElem?_map, List.getElem?_range hi]; rfl⟩
    · exact ⟨_, SqL.of (e _ _ hp), by rw [List.length_map, List.length_range]; exact Nat.le_refl _⟩
    · rintro i v G' G2 acc hi e hacc ⟨rfl, f⟩ R hR
      have ev := f _ (SqL.of (e _ _ hp))
      rw [List.getElem?_map, List.getElem?_range hi] at ev
      obtain rfl : V.int (i : Int) = v := Option.some.inj ev
      walk_at "r"
      refine ⟨rfl, ?_⟩
      walk_at "r"
      refine ⟨a, ns, i, rfl, (e1.trans e).seq hS, by omega, fun G3 pt e3 hpt P3 => ?_⟩
      walk_at "r"
      refine ⟨pt, rfl, P3, fun G4 e4 => ?_⟩
      have hpt' : pt ≠ D := (ne_of_none hacc hpt).symm
      have hx : Same G2 G4 := fun b o hb => e4 b o (fun z => by rw [z, hpt] at hb; cases hb) (e3 b o hb)
      exact hR _ _ (hx _ _ hacc) rfl (e.trans hx)
    · rintro G' acc hl hv hacc e
      walk_at "r"
      rw [all_true hl hv] at hacc
      exact r_allT hacc (q _)

end
/-! ### the head -/
def d_is_made_of_fates : He.DefD := ⟨("is_made_of_fates", none), "is_made_of_fates", "is_made_of_fates", defArgs s_is_made_of_fates, defBody s_is_made_of_fates, defScope s_is_made_of_fates, [], []⟩
def d_is_word : He.DefD := ⟨("is_word", none), "is_word", "is_word", defArgs s_is_word, defBody s_is_word, defScope s_is_word, [], []⟩
def d_need_word : He.DefD := ⟨("need_word", none), "need_word", "need_word", defArgs s_need_word, defBody s_need_word, defScope s_need_word, [], []⟩
def d_place_behind : He.DefD := ⟨("place_behind", none), "place_behind", "place_behind", defArgs s_place_behind, defBody s_place_behind, defScope s_place_behind, [], []⟩
def d_places_along : He.DefD := ⟨("places_along", none), "places_along", "places_along", defArgs s_places_along, defBody s_places_along, defScope s_places_along, [], []⟩
def d_place_of : He.DefD := ⟨("place_of", none), "place_of", "place_of", defArgs s_place_of, defBody s_place_of, defScope s_place_of, [], []⟩
def d_numbers_at : He.DefD := ⟨("numbers_at", none), "numbers_at", "numbers_at", defArgs s_numbers_at, defBody s_numbers_at, defScope s_numbers_at, [], []⟩
def d_place : He.DefD := ⟨("place", none), "place", "place", defArgs s_place, defBody s_place, defScope s_place, [], []⟩
def d_numbers : He.DefD := ⟨("numbers", none), "numbers", "numbers", defArgs s_numbers, defBody s_numbers, defScope s_numbers, [], []⟩
def d_Lpot : He.DefD := ⟨("_law_pot", none), "_law_pot", "_law_pot", defArgs s_Lpot, defBody s_Lpot, defScope s_Lpot, [], []⟩
def d_Ltake : He.DefD := ⟨("_law_take", none), "_law_take", "_law_take", defArgs s_Ltake, defBody s_Ltake, defScope s_Ltake, [], []⟩
def d_Lof : He.DefD := ⟨("_law_of", none), "_law_of", "_law_of", defArgs s_Lof, defBody s_Lof, defScope s_Lof, [], []⟩
def d_Lcells : He.DefD := ⟨("_law_cells", none), "_law_cells", "_law_cells", defArgs s_Lcells, defBody s_Lcells, defScope s_Lcells, [], []⟩
def d_Lis : He.DefD := ⟨("_law_is", none), "_law_is", "_law_is", defArgs s_Lis, defBody s_Lis, defScope s_Lis, [], []⟩
def d_Lis_int : He.DefD := ⟨("_law_is_int", none), "_law_is_int", "_law_is_int", defArgs s_Lis_int, defBody s_Lis_int, defScope s_Lis_int, [], []⟩
def d_Lpower : He.DefD := ⟨("_law_power", none), "_law_power", "_law_power", defArgs s_Lpower, defBody s_Lpower, defScope s_Lpower, [], []⟩
def d_Lheard_numbers : He.DefD := ⟨("_law_heard_numbers", none), "_law_heard_numbers", "_law_heard_numbers", defArgs s_Lheard_numbers, defBody s_Lheard_numbers, defScope s_Lheard_numbers, [], []⟩
def d_Lword : He.DefD := ⟨("_law_word", none), "_law_word", "_law_word", defArgs s_Lword, defBody s_Lword, defScope s_Lword, [], []⟩
def d_Lis_right : He.DefD := ⟨("_law_is_right", none), "_law_is_right", "_law_is_right", defArgs s_Lis_right, defBody s_Lis_right, defScope s_Lis_right, [], []⟩
def d_Lright : He.DefD := ⟨("_law_right", none), "_law_right", "_law_right", defArgs s_Lright, defBody s_Lright, defScope s_Lright, [], []⟩
def d_law : He.DefD := ⟨("law", none), "law", "law", defArgs s_law, defBody s_law, defScope s_law, [], []⟩
def fn : List He.DefD := [d_is_made_of_fates, d_is_word, d_need_word, d_place_behind, d_places_along, d_place_of, d_numbers_at, d_place, d_numbers, d_Lpot, d_Ltake, d_Lof, d_Lcells, d_Lis, d_Lis_int, d_Lpower, d_Lheard_numbers, d_Lword, d_Lis_right, d_Lright, d_law]
def fa : List He.Fa := [.glo "is_made_of_fates", .glo "is_word", .glo "need_word", .glo "place_behind", .glo "places_along", .glo "place_of", .glo "numbers_at", .glo "place", .glo "numbers", .glo "_law_pot", .glo "_law_take", .glo "_law_of", .glo "_law_cells", .glo "_law_is", .glo "_law_is_int", .glo "_law_power", .glo "_law_heard_numbers", .glo "_law_word", .glo "_law_is_right", .glo "_law_right", .glo "law", .str "FATES" "nfs", .int "MOST_FATES" 200, .glo "BEHIND", .free "abs", .free "all", .free "bool", .free "int", .free "isinstance", .free "len", .free "list", .free "max", .free "min", .free "range", .free "str", .free "sum", .free "tuple", .free "type", .free "zip"]
def ex (K : PySem.W.Frag) : Bool := He.tupB K "BEHIND" [.str "snf", .str "fns"] && (true)
abbrev R : PySem.W.OpenRow := PySem.W.OpenLaw.row PySem.Challenge.rw_twofarplayers_k08_whole_numbers_by_heari
abbrev hk : PySem.W.Hook := Tf.hookX 4 fa fn ex
def ob (s : PySem.W.SharedT) : Tf.AlX := Tf.obsX 4 fa fn ex (HandSHeadRun.getT s)
theorem ob_eq (s : PySem.W.SharedT) : ob s = hk.obs s.abs := Tf.obsX_eq (HandSHeadRun.getT_eq s)
def loose0 : List Str := ["PlayError", "BadWord", "FATES", "MOST_FATES", "is_made_of_fates", "is_word", "need_word", "BEHIND", "place_behind", "places_along", "place_of", "numbers_at", "place", "numbers", "_law_pot", "_law_take", "_law_of", "_law_cells", "_law_is_int", "_law_is", "_law_power", "_law_heard_numbers", "_law_word", "_law_is_right", "_law_right"]
def loose : List Str := loose0
theorem run (w : World) : HandSHeadRun.RunEq R (PySem.W.view R.prog [29]) hk ob 20000 loose w := by
  intro os
  kernel_rfl
theorem txt {K : PySem.W.Frag} {h : Heap} {mg : Str → Option Value} (X : K.In h) (G : h.Ns mainGlobals mg) (c : He.SaysD fa fn K) (cx : ex K = true) : Txt K mg := by
  obtain ⟨tu0, cx⟩ := He.ba cx
  exact ⟨c.def_ 0 (d := d_is_made_of_fates) rfl,
    He.glo_ok X G (c.fact 0 (f := .glo "is_made_of_fates") rfl),
    c.def_ 1 (d := d_is_word) rfl,
    He.glo_ok X G (c.fact 1 (f := .glo "is_word") rfl),
    c.def_ 2 (d := d_need_word) rfl,
    He.glo_ok X G (c.fact 2 (f := .glo "need_word") rfl),
    c.def_ 3 (d := d_place_behind) rfl,
    He.glo_ok X G (c.fact 3 (f := .glo "place_behind") rfl),
    c.def_ 4 (d := d_places_along) rfl,
    He.glo_ok X G (c.fact 4 (f := .glo "places_along") rfl),
    c.def_ 5 (d := d_place_of) rfl,
    He.glo_ok X G (c.fact 5 (f := .glo "place_of") rfl),
    c.def_ 6 (d := d_numbers_at) rfl,
    He.glo_ok X G (c.fact 6 (f := .glo "numbers_at") rfl),
    c.def_ 7 (d := d_place) rfl,
    He.glo_ok X G (c.fact 7 (f := .glo "place") rfl),
    c.def_ 8 (d := d_numbers) rfl,
    He.glo_ok X G (c.fact 8 (f := .glo "numbers") rfl),
    c.def_ 9 (d := d_Lpot) rfl,
    He.glo_ok X G (c.fact 9 (f := .glo "_law_pot") rfl),
    c.def_ 10 (d := d_Ltake) rfl,
    He.glo_ok X G (c.fact 10 (f := .glo "_law_take") rfl),
    c.def_ 11 (d := d_Lof) rfl,
    He.glo_ok X G (c.fact 11 (f := .glo "_law_of") rfl),
    c.def_ 12 (d := d_Lcells) rfl,
    He.glo_ok X G (c.fact 12 (f := .glo "_law_cells") rfl),
    c.def_ 13 (d := d_Lis) rfl,
    He.glo_ok X G (c.fact 13 (f := .glo "_law_is") rfl),
    c.def_ 14 (d := d_Lis_int) rfl,
    He.glo_ok X G (c.fact 14 (f := .glo "_law_is_int") rfl),
    c.def_ 15 (d := d_Lpower) rfl,
    He.glo_ok X G (c.fact 15 (f := .glo "_law_power") rfl),
    c.def_ 16 (d := d_Lheard_numbers) rfl,
    He.glo_ok X G (c.fact 16 (f := .glo "_law_heard_numbers") rfl),
    c.def_ 17 (d := d_Lword) rfl,
    He.glo_ok X G (c.fact 17 (f := .glo "_law_word") rfl),
    c.def_ 18 (d := d_Lis_right) rfl,
    He.glo_ok X G (c.fact 18 (f := .glo "_law_is_right") rfl),
    c.def_ 19 (d := d_Lright) rfl,
    He.glo_ok X G (c.fact 19 (f := .glo "_law_right") rfl),
    c.def_ 20 (d := d_law) rfl,
    He.glo_ok X G (c.fact 20 (f := .glo "law") rfl),
    He.str_ok X G (c.fact 21 (f := .str "FATES" "nfs") rfl),
    He.int_ok X G (c.fact 22 (f := .int "MOST_FATES" 200) rfl),
    He.glo_ok X G (c.fact 23 (f := .glo "BEHIND") rfl),
    fun H => He.tupB_ok (vs := [.str "snf", .str "fns"]) (tu0) H,
    He.free_ok X G (c.fact 24 (f := .free "abs") rfl),
    He.free_ok X G (c.fact 25 (f := .free "all") rfl),
    He.free_ok X G (c.fact 26 (f := .free "bool") rfl),
    He.free_ok X G (c.fact 27 (f := .free "int") rfl),
    He.free_ok X G (c.fact 28 (f := .free "isinstance") rfl),
    He.free_ok X G (c.fact 29 (f := .free "len") rfl),
    He.free_ok X G (c.fact 30 (f := .free "list") rfl),
    He.free_ok X G (c.fact 31 (f := .free "max") rfl),
    He.free_ok X G (c.fact 32 (f := .free "min") rfl),
    He.free_ok X G (c.fact 33 (f := .free "range") rfl),
    He.free_ok X G (c.fact 34 (f := .free "str") rfl),
    He.free_ok X G (c.fact 35 (f := .free "sum") rfl),
    He.free_ok X G (c.fact 36 (f := .free "tuple") rfl),
    He.free_ok X G (c.fact 37 (f := .free "type") rfl),
    He.free_ok X G (c.fact 38 (f := .free "zip") rfl)⟩
theorem facts {P : Program} {w : World} {K : PySem.W.Frag} {h : Heap} {mg : Str → Option Value} {f : Addr} (X : K.In h) (G : h.Ns mainGlobals mg) (hfa : mg ("law" : Str) = some (.ref f)) (c : He.SaysD fa fn K) (cx : ex K = true) :
    ∃ fd : FuncData, (∀ (s : Shared) (v : Value), BindsTo s fd ⟨[v], []⟩ [("script", v)]) ∧ ∀ base : Heap, K.In base → base.Ns mainGlobals mg → FnOk P w K mg base CX0 8 f fd ["script"] (sp_law K) := by
  have T := txt X G c cx
  obtain ⟨fd, D⟩ := T.d_law
  have e := hfa.symm.trans T.g_law
  cases e
  have b := FunD.bindsA (ps := ["script"]) D fun _ _ _ _ _ _ us hl => match us, hl with | [_], _ => rfl
  exact ⟨fd, fun s v => b s [v] rfl, fun base _ _ => (ok_law T).at T.g_law D⟩
end K08
open PySem PySem.W PySem.Calls PyProof.Rows
theorem PySem.Challenge.cw_twofarplayers_k08_whole_numbers_by_heari_holds : PySem.Challenge.rw_twofarplayers_k08_whole_numbers_by_heari.Holds := by
  w_on; o_law
  refine HandSHeadRun.head_any (r := OpenLaw.row PySem.Challenge.rw_twofarplayers_k08_whole_numbers_by_heari) (q := view (OpenLaw.row PySem.Challenge.rw_twofarplayers_k08_whole_numbers_by_heari).prog [29]) (H := K08.hk) (ob := K08.ob) (M := 20000) (loose := K08.loose) (d := HandSHeadRun.topDef (OpenLaw.row PySem.Challenge.rw_twofarplayers_k08_whole_numbers_by_heari).prog 29) (kwd := []) K08.ob_eq
    (by kernel_rfl) (fun s => by kernel_rfl) K08.run (by kernel_rfl) (by kernel_rfl) (by kernel_rfl) (by rfl) (by first | assumption | decide +kernel) (by decide +kernel) ⟨rfl, rfl, rfl, rfl, rfl, by decide +kernel⟩ ?hw ?hc
  case hw => w_witness2
  case hc =>
    refine L2.walk_ofE (l := PySem.Challenge.rw_twofarplayers_k08_whole_numbers_by_heari) (n := 63) (k := 8) (x := "script") (CX := L2.CX0) rfl (by decide) (by kernel_rfl) ⟨rfl, by decide, by decide⟩ ?F (fun _ _ _ _ z => z)
    intro w mg fa h Y G hmg0
    obtain ⟨K, KX, c, cx⟩ := Y
    have hmg : mg ("law" : PySem.Str) = some (.ref fa) := by
      have e : (HandSHeadRun.topDef (OpenLaw.row PySem.Challenge.rw_twofarplayers_k08_whole_numbers_by_heari).prog 29).name = ("law" : PySem.Str) := by kernel_rfl
      rw [← e]
      exact hmg0
    obtain ⟨fd, hb, hF⟩ := K08.facts (P := (PySem.Challenge.rw_twofarplayers_k08_whole_numbers_by_heari).prog) (w := w) KX G hmg c cx
    exact ⟨K, fd, K08.sp_law K, KX, hb, fun H a ns hl _ hS => ⟨a, ns, rfl, hS, hl, fun _ => rfl⟩, hF⟩
