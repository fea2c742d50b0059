import PyProof.Rows.All
import Wide.All
import OpenK.AllK
import Wide.FinOn
import HandS.ForMost
import HandS.Wide
import HandS.IsInst
import HandS.Defaults
import HandS.Zip
import HandS.Conv
import HandS.More
import HandS.Flow
import HandS.Evl
import HandS.Replace
import HandS.Codes
import HandS.Style
import KE.KRevSl
import HandS.HeadHook1
import HandS.HeadHook2
import HandS.Head2
import HandS.HeadEnd
import PyProof.ListStr
import HandS.Exc
import HandS.ExcInit
import HandS.ExcField
import HandS.ExcIs
import HandS.ExcValue
import HandS.ExcOwn
import HandS.Lambda
import HandS.EndTab
import HandS.HeadWalk
import HandS.HeadHook4
import HandS.TryOnly
import KE.KExcIs
import PyProof.ReprRoads
import HandS.RaiseMore
import HandS.TupAny
import PyProof.WalkInts
import HandS.HeadHook3
import HandS.Deep
import PyProof.StrWalks
import KE.GoesEnum
import KE.GoesEnumKw
import KE.GoesNew
import HandS.DictComp
import HandS.SortKw
import HandS.Walk
import HandS.Gcd
import HandS.TupMul
import HandS.OwnEq
import PyProof.InstNe
import OpenK.KOps
import HandS.ReplaceList
import HandS.MakeKwOnly
import PySem.Challenge.RW_twofarplayers_k00_whole_texts_of_laws_an
set_option Elab.async false
set_option linter.all false
set_option maxRecDepth 100000
set_option maxHeartbeats 2000000
/-! rules of my own, and short words, for the laws of Twofarplayers -/
namespace Tf
open PySem PySem.Spec PyProof.Rows L2

/-! ### more rules -/
section
variable {X : Cx}
/-- ** of a great base -/
def CPowW (i j : Int) : Prop := 0 ≤ j ∧ (Builtin.Int.intBits i : Int) * j ≤ 2 ^ 27
theorem op_powW : OpR X (binaryOp .Pow) (rI CPowW fun i j => .int (i ^ j.toNat)) := opI fun _ _ _ _ _ _ _ hc q => pow_int hc.1 hc.2 q
def rMulS : R2 := fun x y H Q => ∃ z n, x = .str z ∧ y = .int n ∧ MulOk z n ∧ Q (.str (Txt.mul z n)) H
theorem op_mul_str : OpR X (binaryOp .Mult) rMulS := by
  intro pins s σ H x y v u Q I rx ry h
  obtain ⟨z, n, rfl, rfl, ok, q⟩ := h
  obtain ⟨t, rfl⟩ := rx
  obtain ⟨t', rfl⟩ := ry
  exact SB.mul ok fun t' k => ⟨.str _, H, I.tok _, ⟨_, rfl⟩, q⟩
/-- the signs of a text, a list -/
def signsV (z : Str) : List V := z.cps.toList.map fun c => V.str ⟨#[c]⟩
theorem vals_signs {z : Str} {acc : Array Value} (h : ItemsOf (SignAt z) acc z.cps.size) : Vals (signsV z) acc.toList := by
  have key : ∀ (cs : List Nat) (us : List Value), us.length = cs.length → (∀ (j : Nat) (v : Value), us[j]? = some v → ∃ c u, cs[j]? = some c ∧ v = .str ⟨#[c]⟩ u) → Vals (cs.map fun c => V.str ⟨#[c]⟩) us := by
    intro cs
    induction cs with
    | nil =>
      intro us hl _
      cases us with
      | nil => exact .nil
      | cons _ _ => cases hl
    | cons c cs ih =>
      intro us hl hv
      cases us with
      | nil => cases hl
      | cons u us =>
        obtain ⟨c', t, e1, e2⟩ := hv 0 u rfl
        have e3 : c = c' := Option.some.inj e1
        subst e3
        exact .cons ⟨t, e2⟩ (ih us (Nat.succ.inj hl) fun j v e => hv (j + 1) v e)
  refine key z.cps.toList acc.toList (by simpa using h.1) fun j v e => ?_
  obtain ⟨c, u, e1, e2⟩ := h.2 j v (by simpa using e)
  exact ⟨c, u, by simpa using e1, e2⟩
def rListStr : List V → Hp → VK → Prop := fun xs H Q => ∃ z, xs = [.str z] ∧ z.length ≤ sizeLine ∧ ∀ l, H l = none → Q (.ref l) (upd H l (.lst (signsV z)))
theorem call_list_txt (hc : X.calm = true) : CallR X (.type "list") rListStr := by
  intro pins s σ H xs us Q I r h
  obtain ⟨z, rfl, hz, q⟩ := h
  obtain ⟨u, rfl, t, rfl⟩ := vals1 r
  refine call_list_str (I.ok.hd hc) z t (hn := hz) fun h' tk acc' c' kp e hacc => ?_
  have r' := vals_signs hacc
  have hlen := r'.length
  refine ⟨.ref s.heap.objs.size, _, I.laid (t' := tk) kp (Nat.le_refl _) (show ObjOk X.prog X.w _ h' _ (.lst (signsV z)) from ⟨?_, acc'.toList, c', r', by simpa using e⟩), rfl, q _ (I.hok.fresh (Nat.le_refl _))⟩
  rw [hlen]
  have := hacc.1
  simp only [Array.length_toList]
  rw [this]
  exact hz
end
/-! ### calls by keywords alone -/
section
variable {X : Cx} {CX : CXT} {k n : Nat} {f : Addr} {fd : FuncData} {ps ks : List Str} {sp : Sp} {E : XK} {x : Str} {p pos : Pos} {kws : List Keyword} {tk : TA} {g : List Value → List Value → List Value} {gV : List V → List V → List V}
theorem pe_callN0 (F : FnOk X.prog X.w X.K X.mg X.base CX k f fd ps sp) (hr : Room k X.A) (hg : Gl X x) (hm : X.mg x = some (.ref f)) (hk : PySem.W.keepIn X.K (.ref f) = true) (hb : KBn X.K fd ps 0 ks g gV) (hx : Passes CX X E)
    (hkw : PK X kws tk) (hall : (backToKw pos (keywordEach kws X.env)).all (·.1.isSome) = true := by rfl) (hks : (backToKw pos (keywordEach kws X.env)).filterMap (·.1) = ks := by rfl)
    (hdb : (x == ("__debug__" : Str)) = false := by decide)
    (hpl : ((backTo pos (starEach [] X.env)).any (·.1) || (backToKw pos (keywordEach kws X.env)).any (·.1.isNone)) = false := by rfl) :
    PE X (.Call (.Name x p) [] kws pos) (tCallN 0 ks.length sp gV E tNil tk) := by
  refine ⟨fun pins s σ H Q I h => ?_⟩
  refine wpAny_Call_Name_kw (ld_glob I hg hm ?_ hdb)
  refine PySem.W.callWith_KW0 (h₀ := X.base) I.ok.mod.kin hk hall ?_ hpl
  refine thn (hkw.run pos pins s σ H _ I h) fun ws s2 ⟨zs, H2, I2, rz, l1, l2, q2⟩ => ⟨I2.kIn, ?_⟩
  rw [hks]
  exact run_fnN F hr hb hx I2 (us := []) (vs := []) .nil rz rfl l2 q2
end
section
variable {K : PySem.W.Frag} {x qual : Str} {params : Arguments} {body : List Stmt} {scope : Scope} {f : Addr} {fd : FuncData} {ps : List Str}
theorem kbN (F : FunD K x qual params body scope [] [] f fd) (n : Nat) (ks : List Str) (g : {α : Type} → List α → List α → List α)
    (hrel : ∀ {vs zs : List V} {us ws : List Value}, Vals vs us → Vals zs ws → Vals (g vs zs) (g us ws))
    (h : ∀ (kV doc pm : Value) (an : Option Addr) (cdv ct : Value) (us ws : List Value), us.length = n → ws.length = ks.length → bindArgs (PySem.W.fnOf x qual params body scope .none kV doc pm an cdv ct) ⟨us, ks.zip ws⟩ = pure (ps.zip (g us ws))) :
    KBn K fd ps n ks (fun us ws => g us ws) (fun vs zs => g vs zs) := by
  obtain ⟨oc, od, dV, kV, doc, pm, an, cdv, ct, osl, rfl, lk, hcd, hD, hK⟩ := F.ex
  rcases hD with ⟨_, rfl⟩ | ⟨e, _⟩
  · exact ⟨fun s us ws X l1 l2 => .of_eq (h kV doc pm an cdv ct us ws l1 l2), fun r1 r2 => hrel r1 r2⟩
  · exact absurd rfl e
end

/-! ### a def that is there, and its promise -/
abbrev FnP (K : PySem.W.Frag) (x : Str) (st : Stmt) (f : Addr) (fd : FuncData) : Prop := FunD K x x (defArgs st) (defBody st) (defScope st) [] [] f fd
/-- where the def stands, how it is bound, and what it promises -/
structure Ok (P : Program) (w : World) (K : PySem.W.Frag) (mg : Str → Option Value) (base : Heap) (CX : CXT) (k : Nat) (x : Str) (st : Stmt) (ps : List Str) (sp : Sp) : Prop where
  ex : ∃ f fd, mg x = some (.ref f) ∧ FnP K x st f fd ∧ Binds K fd ps [] ∧ FnOk P w K mg base CX k f fd ps sp
section
variable {X : Cx} {CX : CXT} {k j n : Nat} {st : Stmt} {ps ks : List Str} {sp : Sp} {E : XK} {x : Str} {p pos : Pos} {e : Expr} {es : List Expr} {kws : List Keyword} {t tk : TA} {g : {α : Type} → List α → List α → List α}
theorem pe_cl (F : Ok X.prog X.w X.K X.mg X.base CX k x st ps sp) (hr : Room j X.A) (hg : Gl X x) (hx : Passes CX X E) (ha : PA X (e :: es) t) (hj : k ≤ j := by decide)
    (hdb : (x == ("__debug__" : Str)) = false := by decide) (he : starEach (e :: es) X.env = (false, eval e X.env) :: starEach es X.env := by rfl) (hpl : ((backTo pos (starEach (e :: es) X.env)).any (·.1) || (backToKw pos (keywordEach [] X.env)).any (·.1.isNone)) = false := by rfl) :
    PE X (.Call (.Name x p) (e :: es) [] pos) (tCall sp [] E t) := by
  obtain ⟨f, fd, g, D, b, F⟩ := F.ex
  exact pe_call F (hr.mono hj) hg g D.kp b .nil hx ha hdb he (by
    have h : ((backTo pos (starEach (e :: es) X.env)).any (·.1)) = false := (Bool.or_eq_false_iff.mp hpl).1
    rw [he] at h
    unfold backTo at h ⊢
    simpa using h)
theorem pe_clK0 (F : Ok X.prog X.w X.K X.mg X.base CX k x st ps sp) (hr : Room j X.A) (hg : Gl X x) (hx : Passes CX X E) (hb : ∀ f fd, FnP X.K x st f fd → KBn X.K fd ps 0 ks (fun us ws => g us ws) (fun us ws => g us ws)) (hkw : PK X kws tk) (hj : k ≤ j := by decide)
    (hall : (backToKw pos (keywordEach kws X.env)).all (·.1.isSome) = true := by rfl) (hks : (backToKw pos (keywordEach kws X.env)).filterMap (·.1) = ks := by rfl)
    (hdb : (x == ("__debug__" : Str)) = false := by decide)
    (hpl : ((backTo pos (starEach [] X.env)).any (·.1) || (backToKw pos (keywordEach kws X.env)).any (·.1.isNone)) = false := by rfl) :
    PE X (.Call (.Name x p) [] kws pos) (tCallN 0 ks.length sp (fun us ws => g us ws) E tNil tk) := by
  obtain ⟨f, fd, gg, D, b, F⟩ := F.ex
  exact pe_callN0 F (hr.mono hj) hg gg D.kp (hb f fd D) hx hkw hall hks hdb hpl
theorem pe_clK (F : Ok X.prog X.w X.K X.mg X.base CX k x st ps sp) (hr : Room j X.A) (hg : Gl X x) (hx : Passes CX X E) (hb : ∀ f fd, FnP X.K x st f fd → KBn X.K fd ps n ks (fun us ws => g us ws) (fun us ws => g us ws)) (ha : PA X (e :: es) t) (hkw : PK X kws tk) (hj : k ≤ j := by decide)
    (hall : (backToKw pos (keywordEach kws X.env)).all (·.1.isSome) = true := by rfl) (hks : (backToKw pos (keywordEach kws X.env)).filterMap (·.1) = ks := by rfl)
    (hdb : (x == ("__debug__" : Str)) = false := by decide) (he : starEach (e :: es) X.env = (false, eval e X.env) :: starEach es X.env := by rfl)
    (hpl : ((backTo pos (starEach (e :: es) X.env)).any (·.1) || (backToKw pos (keywordEach kws X.env)).any (·.1.isNone)) = false := by rfl) :
    PE X (.Call (.Name x p) (e :: es) kws pos) (tCallN n ks.length sp (fun us ws => g us ws) E t tk) := by
  obtain ⟨f, fd, gg, D, b, F⟩ := F.ex
  exact pe_callN F (hr.mono hj) hg gg D.kp (hb f fd D) hx ha hkw hall hks hdb he hpl
end
section
variable {X : Cx} {x : Str} {pos : Pos}
theorem pe_gint {i : Int} (hg : Gl X x) (h : ∃ t, X.mg x = some (.int i t)) (hd : (x == ("__debug__" : Str)) = false := by decide) : PE X (.Name x pos) (tC (.int i)) := by
  obtain ⟨t, h⟩ := h
  exact pe_glob hg h ⟨_, rfl⟩ hd
theorem pe_gstr {z : Str} (hg : Gl X x) (h : ∃ t, X.mg x = some (.str z t)) (hd : (x == ("__debug__" : Str)) = false := by decide) : PE X (.Name x pos) (tC (.str z)) := by
  obtain ⟨t, h⟩ := h
  exact pe_glob hg h ⟨_, rfl⟩ hd
theorem pe_sindex {o e : Expr} {to te : TE} {apos : Pos} (ho : PE X o to) (he : PE X e te) (hs : starEach [e] X.env = [(false, eval e X.env)] := by rfl) (hbase : attributeBase o "index" X.env (eval o X.env) = eval o X.env := by rfl) (hline : (apos.endLine == pos.line) = true := by rfl) :
    PE X (.Call (.Attribute o "index" apos) [e] [] pos) (tM1 (fun x xs H Q => ∃ a b i rest, x = .str a ∧ xs = [.str b] ∧ Builtin.Str.occurrences a b 0 a.length 1 = i :: rest ∧ Q (.int (i : Nat)) H) to te) :=
  pe_m1 F.slot_str_index F.type_str_index mt_sindex ho he hs hbase hline
end

/-! ### texts by their codes -/
def S (l : List Nat) : Str := ⟨l.toArray⟩
theorem S_len (l : List Nat) : (S l).length = l.length := by unfold S Str.length; simp
theorem S_codes (l : List Nat) : (S l).cps.toList = l := by unfold S; simp
theorem S_app (a b : List Nat) : S a ++ S b = S (a ++ b) := by
  show (⟨_⟩ : Str) = ⟨_⟩
  simp [S]
theorem S_inj {a b : List Nat} (h : S a = S b) : a = b := by
  have e := congrArg (fun z : Str => z.cps.toList) h
  simpa [S] using e
theorem S_iff {a b : List Nat} : (V.str (S a) = V.str (S b)) ↔ a = b := ⟨fun h => S_inj (V.str.inj h), fun h => by rw [h]⟩
theorem S_of (z : Str) : z = S z.cps.toList := by cases z; simp [S]
theorem signs_S (l : List Nat) : signsV (S l) = l.map fun c => V.str (S [c]) := by unfold signsV; rw [S_codes]; rfl
theorem cut_S (l : List Nat) (lo hi : Option Int) : cutS (S l) lo hi = S ((l.drop (HT.sIx l.length 0 lo)).take (HT.sIx l.length l.length hi - HT.sIx l.length 0 lo)) := by
  unfold cutS
  rw [S_codes, S_len] <;> rfl
theorem sIx_le {n : Nat} {d : Nat} {i : Nat} (h : i ≤ n) : HT.sIx n d (some (i : Int)) = i := by
  rw [HT.sIx_nat]; omega
theorem cut_to {l : List Nat} {n : Nat} (h : n ≤ l.length) : cutS (S l) none (some (n : Int)) = S (l.take n) := by
  rw [cut_S, sIx_le h, HT.sIx_none]
  simp
theorem cut_from {l : List Nat} {n : Nat} (h : n ≤ l.length) : cutS (S l) (some (n : Int)) none = S (l.drop n) := by
  rw [cut_S, sIx_le h, HT.sIx_none]
  congr 1
  rw [List.take_of_length_le]
  rw [List.length_drop]
  omega
theorem fold_app (x : List Nat) : ∀ (n : Nat) (acc : Array Nat), (List.replicate n x.toArray).foldl (· ++ ·) acc = acc ++ ((List.replicate n x).flatten).toArray := by
  intro n
  induction n with
  | zero => intro acc; simp
  | succ n ih => intro acc; rw [List.replicate_succ, List.foldl_cons, ih, List.replicate_succ, List.flatten_cons]; simp [Array.append_assoc]
theorem mul_S (l : List Nat) (n : Nat) : Txt.mul (S l) (n : Int) = S ((List.replicate n l).flatten) := by
  unfold Txt.mul
  split
  · rename_i h
    have : n = 0 := by omega
    subst this
    rfl
  · split
    · rename_i h1 h2
      rw [Bool.or_eq_true] at h2
      rcases h2 with h2 | h2
      · have e : (n : Int) = 1 := by simpa using h2
        have : n = 1 := by omega
        subst this
        simp
      · have e : l.length = 0 := by rw [S_len] at h2; simpa using h2
        have : l = [] := List.eq_nil_of_length_eq_zero e
        subst this
        congr 1
        simp
    · show (⟨_⟩ : Str) = ⟨_⟩
      congr 1
      show ((List.replicate (n : Int).toNat l.toArray).foldl (· ++ ·) #[]) = _
      rw [Int.toNat_natCast, fold_app]
      simp
theorem mulok_S {l : List Nat} {n : Nat} (h : l.length * n ≤ 1000000) (hn : n ≤ 1000000) : MulOk (S l) (n : Int) := by
  refine ⟨by simp; omega, fun h1 h2 => ?_, fun h1 h2 => ?_⟩
  · rw [S_len]
    have h3 : (1 : Int) ≤ (n : Int) := by omega
    rw [Bool.or_eq_false_iff] at h2
    have h4 : l.length ≠ 0 := by
      have := h2.2
      rw [S_len] at this
      simpa using this
    have h5 : l.length ≤ 1000000 := by
      have : l.length * 1 ≤ l.length * n := Nat.mul_le_mul_left _ (by omega)
      omega
    have h6 : (2 ^ 63 - 1) / 1000000 ≤ ((2 ^ 63 - 1 : Int)) / (n : Int) := by
      have h7 : (0 : Int) < (n : Int) := by omega
      rw [Int.le_ediv_iff_mul_le h7]
      have h8 : (n : Int) ≤ 1000000 := by omega
      have h9 : ((2 ^ 63 - 1 : Int) / 1000000) * (n : Int) ≤ ((2 ^ 63 - 1 : Int) / 1000000) * 1000000 := Int.mul_le_mul_of_nonneg_left h8 (by decide)
      have h10 : ((2 ^ 63 - 1 : Int) / 1000000) * 1000000 ≤ 2 ^ 63 - 1 := by decide
      omega
    have h7 : (1000000 : Int) ≤ (2 ^ 63 - 1) / 1000000 := by decide
    omega
  · rw [S_len, Int.toNat_natCast]
    have h0 : sizeLine = 16777216 := by decide
    unfold PySem.Builtin.Str.tooLong
    simp
    omega
theorem joinL_nil : ∀ ys : List (List Nat), TL.joinL [] ys = ys.flatten
  | [] => rfl
  | [x] => by simp [TL.joinL]
  | x :: y :: r => by simp [TL.joinL, joinL_nil (y :: r)]
theorem join_S (ys : List (List Nat)) : Txt.join (S []) (ys.map S) = S ys.flatten := by
  have h : Txt.join (SX.S []) (ys.map SX.S) = SX.S (TL.joinL [] ys) := SX.join_S [] ys
  rw [joinL_nil] at h
  exact h
theorem pe_strS {X : Cx} {x : Str} {j pos} (l : List Nat) (h : x = S l) : PE X (.Constant (.str x) j pos) (tC (.str (S l))) := by
  subst h
  exact pe_str
theorem pe_gstrS {X : Cx} {x z : Str} {pos : Pos} (l : List Nat) (h : z = S l) (hg : Gl X x) (hm : ∃ t, X.mg x = some (.str z t)) (hd : (x == ("__debug__" : Str)) = false := by decide) : PE X (.Name x pos) (tC (.str (S l))) := by
  subst h
  exact pe_gstr hg hm hd
/-! ### the rules with named readings -/
def rIsT : R2 := fun x y H Q => ∃ a b, x = .ty a ∧ y = .ty b ∧ Q (.bl (decide (a = b))) H
def rNoT : R2 := fun x y H Q => ∃ a b, x = .ty a ∧ y = .ty b ∧ Q (.bl (!decide (a = b))) H
def rIN : R2 := fun x y H Q => y = .non ∧ Q (.bl (decide (x = .non))) H
def rNN : R2 := fun x y H Q => y = .non ∧ Q (.bl (!decide (x = .non))) H
def rInC : R2 := fun x y H Q => ∃ (c : Nat) (z : Str), x = .str ⟨#[c]⟩ ∧ y = .str z ∧ Q (.bl (decide (c ∈ z.cps.toList))) H
def rNinC : R2 := fun x y H Q => ∃ (c : Nat) (z : Str), x = .str ⟨#[c]⟩ ∧ y = .str z ∧ Q (.bl (!decide (c ∈ z.cps.toList))) H
def rAddS : R2 := fun x y H Q => ∃ i j, x = .str i ∧ y = .str j ∧ i.length + j.length ≤ sizeLine ∧ Q (.str (i ++ j)) H
def rLtS : R2 := fun x y H Q => ∃ i j, x = .str i ∧ y = .str j ∧ Q (.bl (decide (i.cps.toList < j.cps.toList))) H
abbrev RL := List V → Hp → VK → Prop
def rLnS : RL := fun xs H Q => ∃ z, xs = [.str z] ∧ z.length ≤ sizeLine ∧ Q (.int z.length) H
def rLnQ (K : PySem.W.Frag) : RL := fun xs H Q => ∃ p ys, xs = [.ref p] ∧ (SqL K H p ys ∨ SqT K H p ys) ∧ Q (.int ys.length) H
def rInt : RL := fun xs H Q => (∃ i, xs = [.int i] ∧ Q (.int i) H) ∨ ∃ k, xs = [.bl k] ∧ Q (.int (if k then 1 else 0)) H
def rAbs : RL := fun xs H Q => ∃ i, xs = [.int i] ∧ Q (.int (if i < 0 then -i else i)) H
def rMax2 : RL := fun xs H Q => ∃ i j, xs = [.int i, .int j] ∧ Q (.int (if j > i then j else i)) H
def rMin2 : RL := fun xs H Q => ∃ i j, xs = [.int i, .int j] ∧ Q (.int (if j < i then j else i)) H
def rListOf (K : PySem.W.Frag) : RL := fun xs H Q => ∃ p ys, xs = [.ref p] ∧ (SqL K H p ys ∨ SqT K H p ys) ∧ ∀ l, H l = none → Q (.ref l) (upd H l (.lst ys))
abbrev RM := V → List V → Hp → VK → Prop
def rJoin (K : PySem.W.Frag) : RM := fun x xs H Q => ∃ a p, ∃ ys : List Str, x = .str a ∧ xs = [.ref p] ∧ (SqL K H p (ys.map V.str) ∨ SqT K H p (ys.map V.str)) ∧ (ys.map (·.length)).sum + ys.length * a.length ≤ 16777216 ∧ Q (.str (Txt.join a ys)) H
def rSIx : RM := fun x xs H Q => ∃ a b i rest, x = .str a ∧ xs = [.str b] ∧ Builtin.Str.occurrences a b 0 a.length 1 = i :: rest ∧ Q (.int (i : Nat)) H
section
variable {X : Cx}
theorem o_isT : OpR X (compareOp .Is) rIsT := op_isTyB
theorem o_noT : OpR X (compareOp .IsNot) rNoT := op_notTyB
theorem o_isN : OpR X (compareOp .Is) rIN := op_isN
theorem o_notN : OpR X (compareOp .IsNot) rNN := op_notN
theorem o_inC : OpR X (compareOp .In) rInC := op_in_sign
theorem o_ninC : OpR X (compareOp .NotIn) rNinC := op_notIn_sign
theorem o_addS : OpR X (binaryOp .Add) rAddS := op_add_str
theorem o_ltS : OpR X (compareOp .Lt) rLtS := op_lt_str
theorem k_lnS : CallR X (.builtin "len") rLnS := call_len_str
theorem k_lnQ : CallR X (.builtin "len") (rLnQ X.K) := call_len_seq
theorem k_int : CallR X (.type "int") rInt := call_int1
theorem k_abs : CallR X (.builtin "abs") rAbs := call_abs
theorem k_max2 (hc : X.calm = true) : CallR X (.builtin "max") rMax2 := call_max2 hc
theorem k_min2 (hc : X.calm = true) : CallR X (.builtin "min") rMin2 := call_min2 hc
theorem k_listOf : CallR X (.type "list") (rListOf X.K) := call_list_of
theorem pe_jn {o e : Expr} {to te : TE} {apos pos : Pos} (ho : PE X o to) (he : PE X e te) (hs : starEach [e] X.env = [(false, eval e X.env)] := by rfl) (hbase : attributeBase o "join" X.env (eval o X.env) = eval o X.env := by rfl) (hline : (apos.endLine == pos.line) = true := by rfl) :
    PE X (.Call (.Attribute o "join" apos) [e] [] pos) (tM1 (rJoin X.K) to te) := pe_join ho he hs hbase hline
theorem pe_sx {o e : Expr} {to te : TE} {apos pos : Pos} (ho : PE X o to) (he : PE X e te) (hs : starEach [e] X.env = [(false, eval e X.env)] := by rfl) (hbase : attributeBase o "index" X.env (eval o X.env) = eval o X.env := by rfl) (hline : (apos.endLine == pos.line) = true := by rfl) :
    PE X (.Call (.Attribute o "index" apos) [e] [] pos) (tM1 rSIx to te) := pe_sindex ho he hs hbase hline
end
/-! ### readings -/
section
variable {σ : L2.St} {H : Hp} {Q : VK} {QT : Bool → Hp → Prop} {QA : List V → Hp → Prop} {D : Ends} {ta tb tc te : TE} {t u : TS} {tt tu : TT} {tA tr : TA} {g : TG} {r r' : R2} {v x y : V} {i j : Nat} {K : PySem.W.Frag}
theorem r_seq (h : t { D with nx := u D } σ H) : tSeq t u D σ H := h
theorem r_asg (h : te σ H fun x H1 => g x σ H1 D.nx) : tAsg te g D σ H := h
theorem r_name {Q : L2.St → Hp → Prop} (h : Q (σ.set i (some v)) H) : gName i v σ H Q := h
theorem r_ret (h : te σ H D.rt) : tRet te D σ H := h
theorem r_drop (h : te σ H fun _ H1 => D.nx σ H1) : tDrop te D σ H := h
theorem r_next (h : D.nx σ H) : tNext D σ H := h
theorem r_ifS (h : tt σ H fun b H1 => if b = true then t D σ H1 else u D σ H1) : tIfS tt t u D σ H := h
theorem r_op (h : ta σ H fun x H1 => tb σ H1 fun y H2 => r x y H2 Q) : tOp r ta tb σ H Q := h
theorem r_un {r : V → Hp → VK → Prop} (h : ta σ H fun x H1 => r x H1 Q) : tUn r ta σ H Q := h
theorem r_var (h : σ[i]? = some (some v)) (q : Q v H) : tVar i σ H Q := ⟨v, h, q⟩
theorem r_c (q : Q v H) : tC v σ H Q := q
theorem r_I0 {f : Int → Int → V} {a b : Int} (q : Q (f a b) H) : rI0 f (.int a) (.int b) H Q := ⟨a, b, rfl, rfl, q⟩
theorem r_I {C : Int → Int → Prop} {f : Int → Int → V} {a b : Int} (c : C a b) (q : Q (f a b) H) : rI C f (.int a) (.int b) H Q := ⟨a, b, rfl, rfl, c, q⟩
theorem r_U {f : Int → V} {a : Int} (q : Q (f a) H) : rU f (.int a) H Q := ⟨a, rfl, q⟩
theorem r_eq (s : scal x y = true) (q : Q (.bl (decide (x = y))) H) : rEq x y H Q := ⟨s, q⟩
theorem r_ne (s : scal x y = true) (q : Q (.bl (!decide (x = y))) H) : rNe x y H Q := ⟨s, q⟩
theorem r_cb {r : List V → Hp → VK → Prop} (h : tA σ H fun vs H1 => r vs H1 Q) : tCB r tA σ H Q := h
theorem r_cons (h : ta σ H fun x H1 => tr σ H1 fun xs H2 => QA (x :: xs) H2) : tCons ta tr σ H QA := h
theorem r_nil (h : QA [] H) : tNil σ H QA := h
theorem r_call {sp : Sp} {E : XK} (h : tA σ H fun vs H1 => sp (vs ++ []) H1 Q E) : tCall sp [] E tA σ H Q := h
theorem r_callN {n m : Nat} {sp : Sp} {E : XK} {gV : List V → List V → List V} {tk : TA} (h : tA σ H fun vs H1 => tk σ H1 fun zs H2 => vs.length = n ∧ zs.length = m ∧ sp (gV vs zs) H2 Q E) : tCallN n m sp gV E tA tk σ H Q := h
theorem r_test (h : ta σ H fun x H' => ∃ k, x = .bl k ∧ QT k H') : tTest ta σ H QT := h
theorem r_B (h : ta σ H fun x H' => ∃ k, x = .bl k ∧ QT k H') : tB ta σ H QT := h
theorem r_k {P : Bool → Prop} {b : Bool} (h : P b) : ∃ k, V.bl b = .bl k ∧ P k := ⟨b, rfl, h⟩
theorem r_and (h : tt σ H fun c H1 => if c = true then tu σ H1 QT else QT false H1) : tAnd tt tu σ H QT := h
theorem r_or (h : tt σ H fun c H1 => if c = true then QT true H1 else tu σ H1 QT) : tOr tt tu σ H QT := h
theorem r_not (h : tt σ H fun c H1 => QT (!c) H1) : tNot tt σ H QT := h
theorem r_andV (h : ta σ H fun x H1 => ∃ c, x = .bl c ∧ if c = true then tb σ H1 Q else Q (.bl false) H1) : tAndV ta tb σ H Q := h
theorem r_orV (h : ta σ H fun x H1 => ∃ c, x = .bl c ∧ if c = true then Q (.bl true) H1 else tb σ H1 Q) : tOrV ta tb σ H Q := h
theorem r_notV (h : ta σ H fun x H1 => ∃ c, x = .bl c ∧ Q (.bl (!c)) H1) : tNotV ta σ H Q := h
theorem r_if (h : tt σ H fun c H1 => if c = true then ta σ H1 Q else tb σ H1 Q) : tIf tt ta tb σ H Q := h
theorem r_chain (h : ta σ H fun x H1 => tb σ H1 fun y H2 => r x y H2 fun z H3 => ∃ k, z = .bl k ∧ (if k = true then tc σ H3 fun w' H4 => r' y w' H4 Q else Q (.bl false) H3)) : tChain r r' ta tb tc σ H Q := h
theorem r_tup (h : tA σ H fun xs H1 => xs.length ≤ sizeLine ∧ ∀ p, H1 p = none → Q (.ref p) (upd H1 p (.tup xs))) : tTup tA σ H Q := h
theorem r_lst (h : tA σ H fun xs H1 => xs.length ≤ sizeLine ∧ ∀ p, H1 p = none → Q (.ref p) (upd H1 p (.lst xs))) : tLst tA σ H Q := h
theorem r_par (h : tA σ H fun vs H1 => ∃ v w, vs = [v, w] ∧ D.nx ((σ.set i (some v)).set j (some w)) H1) : tPar i j tA D σ H := h
theorem r_sl {rs : V → Option Int → Option Int → Hp → VK → Prop} {tl th : TO} (h : te σ H fun x H1 => tl σ H1 fun l H2 => th σ H2 fun u H3 => rs x l u H3 Q) : tSl rs te tl th σ H Q := h
theorem r_nopart {Q : Option Int → Hp → Prop} (h : Q none H) : tNoPart σ H Q := h
theorem r_part {Q : Option Int → Hp → Prop} (h : te σ H fun x H1 => ∃ i, x = .int i ∧ Q (some i) H1) : tPart te σ H Q := h
theorem r_i {P : Int → Prop} {a : Int} (h : P a) : ∃ i, V.int a = .int i ∧ P i := ⟨a, rfl, h⟩
theorem r_int {a : Int} (h : Q (.int a) H) : rInt [.int a] H Q := .inl ⟨a, rfl, h⟩
theorem r_intb {b : Bool} (h : Q (.int (if b then 1 else 0)) H) : rInt [.bl b] H Q := .inr ⟨b, rfl, h⟩
theorem r_abs {a : Int} (h : Q (.int (if a < 0 then -a else a)) H) : rAbs [.int a] H Q := ⟨a, rfl, h⟩
theorem r_max2 {a b : Int} (h : Q (.int (if b > a then b else a)) H) : rMax2 [.int a, .int b] H Q := ⟨a, b, rfl, h⟩
theorem r_min2 {a b : Int} (h : Q (.int (if b < a then b else a)) H) : rMin2 [.int a, .int b] H Q := ⟨a, b, rfl, h⟩
theorem r_lnS {z : Str} (hz : z.length ≤ sizeLine) (h : Q (.int z.length) H) : rLnS [.str z] H Q := ⟨z, rfl, hz, h⟩
theorem r_lnT {l : List Nat} (hz : l.length ≤ 1000000) (h : Q (.int l.length) H) : rLnS [.str (S l)] H Q := ⟨_, rfl, by rw [S_len]; exact Nat.le_trans hz (by decide), by rw [S_len]; exact h⟩
theorem r_lnL {p : Addr} {ys : List V} (hs : SqL K H p ys) (h : Q (.int ys.length) H) : rLnQ K [.ref p] H Q := ⟨p, ys, rfl, .inl hs, h⟩
theorem r_lnU {p : Addr} {ys : List V} (hs : SqT K H p ys) (h : Q (.int ys.length) H) : rLnQ K [.ref p] H Q := ⟨p, ys, rfl, .inr hs, h⟩
theorem r_listL {p : Addr} {ys : List V} (hs : SqL K H p ys) (h : ∀ l, H l = none → Q (.ref l) (upd H l (.lst ys))) : rListOf K [.ref p] H Q := ⟨p, ys, rfl, .inl hs, h⟩
theorem r_listS {l : List Nat} (hz : l.length ≤ 1000000) (h : ∀ p, H p = none → Q (.ref p) (upd H p (.lst (l.map fun c => V.str (S [c]))))) : rListStr [.str (S l)] H Q := ⟨_, rfl, by rw [S_len]; exact Nat.le_trans hz (by decide), by rw [signs_S]; exact h⟩
theorem r_isT {a b : String} (q : Q (.bl (decide (a = b))) H) : rIsT (.ty a) (.ty b) H Q := ⟨a, b, rfl, rfl, q⟩
theorem r_noT {a b : String} (q : Q (.bl (!decide (a = b))) H) : rNoT (.ty a) (.ty b) H Q := ⟨a, b, rfl, rfl, q⟩
theorem r_isN (q : Q (.bl (decide (x = .non))) H) : rIN x .non H Q := ⟨rfl, q⟩
theorem r_notN (q : Q (.bl (!decide (x = .non))) H) : rNN x .non H Q := ⟨rfl, q⟩
theorem r_inC {c : Nat} {l : List Nat} (q : Q (.bl (decide (c ∈ l))) H) : rInC (.str (S [c])) (.str (S l)) H Q := ⟨c, _, rfl, rfl, by rw [S_codes]; exact q⟩
theorem r_addS {a b : List Nat} (hz : a.length + b.length ≤ 1000000) (q : Q (.str (S (a ++ b))) H) : rAddS (.str (S a)) (.str (S b)) H Q := ⟨_, _, rfl, rfl, by rw [S_len, S_len]; exact Nat.le_trans hz (by decide), by rw [S_app]; exact q⟩
theorem r_mulS {a : List Nat} {n : Nat} (hz : a.length * n ≤ 1000000) (hn : n ≤ 1000000) (q : Q (.str (S (List.replicate n a).flatten)) H) : rMulS (.str (S a)) (.int (n : Int)) H Q := ⟨_, _, rfl, rfl, mulok_S hz hn, by rw [mul_S]; exact q⟩
theorem r_join {p : Addr} {ys : List (List Nat)} (hs : SqL K H p (ys.map fun l => V.str (S l))) (hz : ys.flatten.length ≤ 1000000) (q : Q (.str (S ys.flatten)) H) : rJoin K (.str (S [])) [.ref p] H Q :=
  ⟨_, p, ys.map S, rfl, rfl, .inl (by rw [List.map_map]; exact hs), by
    rw [List.map_map, S_len]
    have e : ((fun z : Str => z.length) ∘ S) = fun l : List Nat => l.length := funext fun l => S_len l
    rw [show ((·.length) ∘ S : List Nat → Nat) = fun l : List Nat => l.length from e]
    rw [List.length_flatten] at hz
    simp only [List.length_nil, Nat.mul_zero, Nat.add_zero]
    exact Nat.le_trans hz (by decide), by rw [join_S]; exact q⟩
theorem r_isi {T t : String} {b : Bool} (hx : TyX K H x (.type t)) (hk : kitB t T = some b) (q : Q (.bl b) H) : rIsi K [x, .ty T] H Q := ⟨x, .ty T, .type t, .type T, b, rfl, .ty T, hx, kit_ty hk, q⟩
def isiS (x : V) (T : String) : Option Bool := match x with
  | .int _ => kitB "int" T
  | .str _ => kitB "str" T
  | .bl _ => kitB "bool" T
  | .non => kitB "NoneType" T
  | _ => none
theorem r_isiS {T : String} {b : Bool} (h : isiS x T = some b) (q : Q (.bl b) H) : rIsi K [x, .ty T] H Q := by
  cases x with
  | int i => exact r_isi (.base (.int i)) h q
  | str i => exact r_isi (.base (.str i)) h q
  | bl i => exact r_isi (.base (.bl i)) h q
  | non => exact r_isi (.base .non) h q
  | _ => cases h
theorem r_isiT {T : String} {a : Addr} {xs : List V} {b : Bool} (h : SqT K H a xs) (hk : kitB "tuple" T = some b) (q : Q (.bl b) H) : rIsi K [.ref a, .ty T] H Q := by
  rcases h with h | ⟨o, its, n, h1, h2, _⟩
  · rcases h with h | ⟨o, h⟩
    · exact r_isi (.base (.tup h)) hk q
    · exact r_isi (.fTuple h) hk q
  · exact r_isi (.kTuple h1 h2) hk q
theorem r_typ {T : String} (h : TyB K H x T) (q : Q (.ty T) H) : rTyp K [x] H Q := ⟨x, T, rfl, h, q⟩
theorem r_for {wi : TI} {tb : TS} (h : wi σ H fun J H1 => ∃ W : Nat → Nat → L2.St → Hp → Prop, (∃ m, W 0 m σ H1) ∧ ∀ i m σ H, W i m σ H →
  (J.stop i H ∧ D.nx σ H) ∨ (J.go i H ∧ ∃ N : L2.St → Hp → Prop, (∀ σ' H', N σ' H' → ∃ m', m' < m ∧ W (i + 1) m' σ' H') ∧ ∀ x H', J.yld i H x H' → g x σ H' fun σ2 H2 => tb { D with nx := N, ct := N, bk := D.nx } σ2 H2)) : tFor wi g tb D σ H := h
theorem r_iStr {R : It → Hp → Prop} (h : te σ H fun v H1 => ∃ x, v = .str x ∧ R (Its x) H1) : iStr te σ H R := h
theorem r_iList {R : It → Hp → Prop} (h : te σ H fun x H1 => ∃ a, x = .ref a ∧ (∃ xs, SqL K H1 a xs) ∧ R (Itl K a) H1) : iList K te σ H R := h
theorem r_iTup {R : It → Hp → Prop} (h : te σ H fun x H1 => ∃ a, x = .ref a ∧ (∃ xs, SqT K H1 a xs) ∧ R (Itt K a) H1) : iTup K te σ H R := h
theorem r_tM1 {r : V → List V → Hp → VK → Prop} (h : ta σ H fun x H1 => (∃ a, x = .str a) ∧ te σ H1 fun y H2 => r x [y] H2 Q) : tM1 r ta te σ H Q := h
theorem r_lc {wi : TI} {vs : List Nat} (h : wi σ H fun J H1 => ∀ D, H1 D = none → ∃ W : Nat → Nat → Hp → Prop, (∃ m, W 0 m (upd H1 D (.lst []))) ∧ ∀ i m H, W i m H →
  (J.stop i H ∧ Q (.ref D) H) ∨ (J.go i H ∧ ∃ Nx : Hp → Prop, (∀ H', Nx H' → ∃ m', m' < m ∧ W (i + 1) m' H') ∧ ∀ x H', J.yld i H x H' → g x (wipe σ vs) H' fun σ2 H2 => wipe σ2 vs = wipe σ vs ∧ tt σ2 H2 fun b H3 =>
    if b = true then te σ2 H3 fun y H4 => ∃ acc, H4 D = some (.lst acc) ∧ acc.length < sizeLine ∧ Nx (upd H4 D (.lst (acc ++ [y]))) else Nx H3)) : tLc wi g tt te vs σ H Q := h
theorem r_yes (h : QT true H) : tYes σ H QT := h
theorem r_ixL {p : Addr} {xs : List V} {a : Int} (hS : SqL K H p xs) (ha : atI xs a = some v) (q : Q v H) : rIxL K (.ref p) (.int a) H Q := ⟨p, xs, a, v, rfl, rfl, hS, ha, q⟩
theorem r_ixT {p : Addr} {xs : List V} {a : Int} (hS : SqT K H p xs) (ha : atI xs a = some v) (q : Q v H) : rIxT K (.ref p) (.int a) H Q := ⟨p, xs, a, v, rfl, rfl, hS, ha, q⟩
theorem r_true {A B : Prop} (h : A) : if true = true then A else B := by rw [if_pos rfl]; exact h
theorem r_false {A B : Prop} (h : B) : if false = true then A else B := by rw [if_neg Bool.false_ne_true]; exact h
theorem r_dec {c A B : Prop} [Decidable c] (h1 : c → A) (h2 : ¬ c → B) : if decide c = true then A else B := by
  by_cases h : c
  · rw [decide_eq_true h]; exact r_true (h1 h)
  · rw [decide_eq_false h]; exact r_false (h2 h)
theorem r_ndec {c A B : Prop} [Decidable c] (h1 : ¬ c → A) (h2 : c → B) : if (!decide c) = true then A else B := by
  by_cases h : c
  · rw [decide_eq_true h]; exact r_false (h2 h)
  · rw [decide_eq_false h]; exact r_true (h1 h)
theorem r_ndecI {a b : V} {A B : Prop} (h1 : ¬ a = b → A) (h2 : a = b → B) : if (!decide (a = b)) = true then A else B := r_ndec h1 h2
end
/-! ### heaps: all but one object -/
def But (a : Addr) (H H' : Hp) : Prop := ∀ b o, b ≠ a → H b = some o → H' b = some o
section
variable {a p : Addr} {H H' H1 H2 : Hp} {o : HO}
theorem But.refl : But a H H := fun _ _ _ h => h
theorem But.trans (e : But a H H1) (f : But a H1 H2) : But a H H2 := fun b o n h => f b o n (e b o n h)
theorem But.of (e : Same H H') : But a H H' := fun b o _ h => e b o h
theorem But.new (e : But a H H1) (h : H1 p = none) : But a H (upd H1 p o) := fun b u n q => by
  have q' := e b u n q
  rw [upd_ne (ne_of_none q' h)]
  exact q'
theorem But.put (e : But a H H1) : But a H (upd H1 a o) := fun b u n q => by
  rw [upd_ne n]
  exact e b u n q
theorem But.mut (e : But a H H1) (h : H p = none) : But a H (upd H1 p o) := fun b u n q => by
  rw [upd_ne (ne_of_none q h)]
  exact e b u n q
theorem same_new (h : H p = none) : Same H (upd H p o) := fun b u q => by
  rw [upd_ne (ne_of_none q h)]
  exact q
theorem Same.mut (e : Same H H1) (h : H p = none) : Same H (upd H1 p o) := fun b u q => by
  rw [upd_ne (ne_of_none q h)]
  exact e b u q
theorem But.free (e : But a H H1) {l : Addr} (n : l ≠ a) (h : H1 l = none) : H l = none := by
  cases q : H l with
  | none => rfl
  | some o => rw [e l o n q] at h; cases h
theorem But.rd (e : But a H H1) {b : Addr} {u : HO} (n : b ≠ a) (h : Rd H b u) : Rd H1 b u := by
  rcases h with h | ⟨o, h⟩
  · exact .inl (e _ _ n h)
  · exact .inr ⟨o, e _ _ n h⟩
theorem But.sql {K : PySem.W.Frag} (e : But a H H1) {b : Addr} {xs : List V} (n : b ≠ a) (h : SqL K H b xs) : SqL K H1 b xs := by
  rcases h with h | h
  · exact .inl (e.rd n h)
  · exact .inr h
theorem But.sqt {K : PySem.W.Frag} (e : But a H H1) {b : Addr} {xs : List V} (n : b ≠ a) (h : SqT K H b xs) : SqT K H1 b xs := by
  rcases h with h | h
  · exact .inl (e.rd n h)
  · exact .inr h
theorem Same.sqt {K : PySem.W.Frag} (e : Same H H1) {b : Addr} {xs : List V} (h : SqT K H b xs) : SqT K H1 b xs := by
  rcases h with (h | ⟨o, h⟩) | h
  · exact .inl (.inl (e _ _ h))
  · exact .inl (.inr ⟨o, e _ _ h⟩)
  · exact .inr h
theorem fresh_ne (h : H p = none) (e : H a = some o) : p ≠ a := (ne_of_none e h).symm
end
/-! ### the pot: draws -/
def PotAt (H : Hp) (a : Addr) (c : Int) : Prop := ∃ own sd n : Int, H a = some (.lst [.int own, .int sd, .int n]) ∧ 0 ≤ own ∧ own.natAbs < 2 ^ 1000 ∧ 0 ≤ sd ∧ sd < 2305843009213693951 ∧ 0 ≤ n ∧ n ≤ c
theorem PotAt.mono {H : Hp} {a : Addr} {c d : Int} (h : PotAt H a c) (l : c ≤ d) : PotAt H a d := by
  obtain ⟨own, sd, n, h1, h2, h3, h4, h5, h6, h7⟩ := h
  exact ⟨own, sd, n, h1, h2, h3, h4, h5, h6, by omega⟩
theorem PotAt.new {H : Hp} {a p : Addr} {c : Int} {o : HO} (h : PotAt H a c) (n : H p = none) : PotAt (upd H p o) a c := by
  obtain ⟨own, sd, k, h1, h2⟩ := h
  exact ⟨own, sd, k, by rw [upd_ne (ne_of_none h1 n)]; exact h1, h2⟩
theorem PotAt.ne {H : Hp} {a p : Addr} {c : Int} (h : PotAt H a c) (n : p ≠ a) {o : HO} : PotAt (upd H p o) a c := by
  obtain ⟨own, sd, k, h1, h2⟩ := h
  exact ⟨own, sd, k, by rw [upd_ne n.symm]; exact h1, h2⟩
theorem PotAt.fresh {H : Hp} {a p : Addr} {c : Int} (h : PotAt H a c) (n : H p = none) : p ≠ a := by
  obtain ⟨own, sd, k, h1, h2⟩ := h
  exact fresh_ne n h1
theorem PotAt.same {H H' : Hp} {a : Addr} {c : Int} (h : PotAt H a c) (e : Same H H') : PotAt H' a c := by
  obtain ⟨own, sd, k, h1, h2⟩ := h
  exact ⟨own, sd, k, e _ _ h1, h2⟩

/-! ### the fates: n 110, f 102, s 115 -/
def Wd (l : List Nat) : Prop := ∀ c ∈ l, c = 110 ∨ c = 102 ∨ c = 115
theorem Wd.nil : Wd [] := fun _ h => nomatch h
theorem Wd.app {a b : List Nat} (h : Wd a) (h' : Wd b) : Wd (a ++ b) := fun c hc => (List.mem_append.mp hc).elim (h c) (h' c)
theorem Wd.take {a : List Nat} (h : Wd a) (n : Nat) : Wd (a.take n) := fun c hc => h c (List.mem_of_mem_take hc)
theorem Wd.drop {a : List Nat} (h : Wd a) (n : Nat) : Wd (a.drop n) := fun c hc => h c (List.mem_of_mem_drop hc)
theorem Wd.get {a : List Nat} (h : Wd a) {i c : Nat} (e : a[i]? = some c) : c = 110 ∨ c = 102 ∨ c = 115 := h c (List.mem_of_getElem? e)
theorem Wd.rep {a : List Nat} (h : Wd a) (n : Nat) : Wd (List.replicate n a).flatten := fun c hc => by
  obtain ⟨x, h1, h2⟩ := List.mem_flatten.mp hc
  rw [List.eq_of_mem_replicate h1] at h2
  exact h c h2
/-! ### loops over texts -/
theorem for_S {l : List Nat} {g : TG} {tb : TS} {D : Ends} {σ : L2.St} {H : Hp} (Pv : Nat → L2.St → Hp → Prop) (h0 : Pv 0 σ H)
    (hs : ∀ i c σ H, l[i]? = some c → Pv i σ H → g (.str (S [c])) σ H fun σ2 H2 => tb { D with nx := Pv (i + 1), ct := Pv (i + 1), bk := D.nx } σ2 H2) (hd : ∀ σ H, Pv l.length σ H → D.nx σ H) :
    ∃ W : Nat → Nat → L2.St → Hp → Prop, (∃ m, W 0 m σ H) ∧ ∀ i m σ H, W i m σ H →
      ((Its (S l)).stop i H ∧ D.nx σ H) ∨ ((Its (S l)).go i H ∧ ∃ N : L2.St → Hp → Prop, (∀ σ' H', N σ' H' → ∃ m', m' < m ∧ W (i + 1) m' σ' H') ∧ ∀ x H', (Its (S l)).yld i H x H' → g x σ H' fun σ2 H2 => tb { D with nx := N, ct := N, bk := D.nx } σ2 H2) := by
  have sz : (S l).cps.size = l.length := by unfold S; simp
  refine ⟨fun i m σ H => m = l.length - i ∧ i ≤ l.length ∧ Pv i σ H, ⟨l.length, by simp, Nat.zero_le _, h0⟩, ?_⟩
  rintro i m σ H ⟨rfl, hi, p⟩
  by_cases hlt : i < l.length
  · refine .inr ⟨(by show i < (S l).cps.size; rw [sz]; exact hlt), Pv (i + 1), fun σ' H' p' => ⟨l.length - (i + 1), by omega, rfl, hlt, p'⟩, fun x H' y => ?_⟩
    obtain ⟨rfl, c, e, rfl⟩ := y
    exact hs i c σ H' (by simpa [S] using e) p
  · refine .inl ⟨(by show (S l).cps.size ≤ i; rw [sz]; omega), ?_⟩
    have : i = l.length := by omega
    subst this
    exact hd σ H p
theorem lc_S {l : List Nat} {g : TG} {tt : TT} {te : TE} {vs : List Nat} {σ : L2.St} {H1 : Hp} {D : Addr} {Qd : Hp → Prop} (Pv : Nat → Hp → Prop) (h0 : Pv 0 (upd H1 D (.lst [])))
    (hs : ∀ i c H, l[i]? = some c → Pv i H → g (.str (S [c])) (wipe σ vs) H fun σ2 H2 => wipe σ2 vs = wipe σ vs ∧ tt σ2 H2 fun b H3 =>
      if b = true then te σ2 H3 fun y H4 => ∃ acc, H4 D = some (.lst acc) ∧ acc.length < sizeLine ∧ Pv (i + 1) (upd H4 D (.lst (acc ++ [y]))) else Pv (i + 1) H3) (hd : ∀ H, Pv l.length H → Qd H) :
    ∃ W : Nat → Nat → Hp → Prop, (∃ m, W 0 m (upd H1 D (.lst []))) ∧ ∀ i m H, W i m H →
      ((Its (S l)).stop i H ∧ Qd H) ∨ ((Its (S l)).go i H ∧ ∃ Nx : Hp → Prop, (∀ H', Nx H' → ∃ m', m' < m ∧ W (i + 1) m' H') ∧ ∀ x H', (Its (S l)).yld i H x H' → g x (wipe σ vs) H' fun σ2 H2 => wipe σ2 vs = wipe σ vs ∧ tt σ2 H2 fun b H3 =>
        if b = true then te σ2 H3 fun y H4 => ∃ acc, H4 D = some (.lst acc) ∧ acc.length < sizeLine ∧ Nx (upd H4 D (.lst (acc ++ [y]))) else Nx H3) := by
  have sz : (S l).cps.size = l.length := by unfold S; simp
  refine ⟨fun i m H => m = l.length - i ∧ i ≤ l.length ∧ Pv i H, ⟨l.length, by simp, Nat.zero_le _, h0⟩, ?_⟩
  rintro i m H ⟨rfl, hi, p⟩
  by_cases hlt : i < l.length
  · refine .inr ⟨(by show i < (S l).cps.size; rw [sz]; exact hlt), Pv (i + 1), fun H' p' => ⟨l.length - (i + 1), by omega, rfl, hlt, p'⟩, fun x H' y => ?_⟩
    obtain ⟨rfl, c, e, rfl⟩ := y
    exact hs i c H' (by simpa [S] using e) p
  · refine .inl ⟨(by show (S l).cps.size ≤ i; rw [sz]; omega), ?_⟩
    have : i = l.length := by omega
    subst this
    exact hd H p
section
theorem r_yesD {c A B : Prop} [Decidable c] (h : c) (q : A) : if decide c = true then A else B := by rw [decide_eq_true h]; exact r_true q
theorem r_noD {c A B : Prop} [Decidable c] (h : ¬ c) (q : B) : if decide c = true then A else B := by rw [decide_eq_false h]; exact r_false q
theorem r_nt {A B : Prop} (h : B) : if (!true) = true then A else B := r_false h
theorem r_nf {A B : Prop} (h : A) : if (!false) = true then A else B := r_true h
theorem r_nyesD {c A B : Prop} [Decidable c] (h : c) (q : B) : if (!decide c) = true then A else B := by rw [decide_eq_true h]; exact r_false q
theorem r_nnoD {c A B : Prop} [Decidable c] (h : ¬ c) (q : A) : if (!decide c) = true then A else B := by rw [decide_eq_false h]; exact r_true q
theorem r_allT {K : PySem.W.Frag} {H : Hp} {Q : VK} {D : Addr} {n : Nat} (h : H D = some (.lst (List.replicate n (.bl true)))) (q : Q (.bl true) H) : rAll K [.ref D] H Q := by
  refine ⟨D, List.replicate n true, rfl, SqL.of ?_, ?_⟩
  · rw [h, List.map_replicate]
  · have e : (List.replicate n true).all id = true := by simp
    rw [e]
    exact q
theorem rep_len (n : Nat) : (List.replicate n (V.bl true)).length = n := List.length_replicate
theorem rep_succ (n : Nat) : List.replicate n (V.bl true) ++ [V.bl true] = List.replicate (n + 1) (V.bl true) := by
  rw [List.replicate_succ']
theorem le_line {n : Nat} (h : n ≤ 1000000) : n ≤ sizeLine := Nat.le_trans h (by decide)
theorem lt_line {n : Nat} (h : n ≤ 1000000) : n < sizeLine := Nat.lt_of_le_of_lt h (by decide)
/-- a comprehension over a text, every item True -/
theorem lcS_true {l : List Nat} {g : TG} {te : TE} {vs : List Nat} {σ : L2.St} {H1 : Hp} {D : Addr} {Qd : Hp → Prop} (hD : H1 D = none) (hl : l.length ≤ 1000000)
    (hs : ∀ (i c : Nat) (H : Hp), l[i]? = some c → Same H1 H → ∀ R : V → Hp → Prop, (∀ H', Same H H' → R (.bl true) H') → g (.str (S [c])) (wipe σ vs) H fun σ2 H2 => wipe σ2 vs = wipe σ vs ∧ te σ2 H2 R)
    (hd : ∀ H, Same H1 H → H D = some (.lst (List.replicate l.length (.bl true))) → Qd H) :
    ∃ W : Nat → Nat → Hp → Prop, (∃ m, W 0 m (upd H1 D (.lst []))) ∧ ∀ i m H, W i m H →
      ((Its (S l)).stop i H ∧ Qd H) ∨ ((Its (S l)).go i H ∧ ∃ Nx : Hp → Prop, (∀ H', Nx H' → ∃ m', m' < m ∧ W (i + 1) m' H') ∧ ∀ x H', (Its (S l)).yld i H x H' → g x (wipe σ vs) H' fun σ2 H2 => wipe σ2 vs = wipe σ vs ∧ tYes σ2 H2 fun b H3 =>
        if b = true then te σ2 H3 fun y H4 => ∃ acc, H4 D = some (.lst acc) ∧ acc.length < sizeLine ∧ Nx (upd H4 D (.lst (acc ++ [y]))) else Nx H3) := by
  refine lc_S (fun i H => Same H1 H ∧ H D = some (.lst (List.replicate i (.bl true)))) ⟨same_new hD, upd_same⟩ (fun i c H e p => ?_) fun H p => hd H p.1 p.2
  have hi : i < l.length := (List.getElem?_eq_some_iff.mp e).1
  exact hs i c H e p.1 _ fun H' e' => ⟨_, e' _ _ p.2, by rw [rep_len]; exact lt_line (by omega), Same.mut (p.1.trans e') hD, by rw [upd_same, rep_succ]⟩
end

/-! ### cuts, stores -/
section
variable {σ : L2.St} {H : Hp} {Q : VK} {D : Ends} {te : TE} {ts : TS} {K : PySem.W.Frag}
theorem r_cut (P : V → Hp → Prop) (fin : ∀ x H1, P x H1 → Q x H1) (main : ∀ R : VK, (∀ x H1, P x H1 → R x H1) → te σ H R) : te σ H Q := main Q fin
theorem s_cut (P : L2.St → Hp → Prop) (fin : ∀ σ' H', P σ' H' → D.nx σ' H') (main : ∀ N : L2.St → Hp → Prop, (∀ σ' H', P σ' H' → N σ' H') → ts { D with nx := N } σ H) : ts D σ H := main D.nx fin
theorem t_cut {tt : TT} {QT : Bool → Hp → Prop} (P : Bool → Hp → Prop) (fin : ∀ x H1, P x H1 → QT x H1) (main : ∀ R : Bool → Hp → Prop, (∀ x H1, P x H1 → R x H1) → tt σ H R) : tt σ H QT := main QT fin
theorem r_gSub {to ti : TE} {t : TSet} {v : V} {Q : L2.St → Hp → Prop} (h : to σ H fun o H1 => ti σ H1 fun i H2 => t o i v H2 fun H3 => Q σ H3) : gSub to ti t v σ H Q := h
theorem r_setL {p : Addr} {xs : List V} {k : Int} {j : Nat} {v : V} {Q : Hp → Prop} (h : H p = some (.lst xs)) (hk : ixN xs.length k = some j) (q : Q (upd H p (.lst (xs.set j v)))) : rSetL (.ref p) (.int k) v H Q := ⟨p, xs, k, j, rfl, rfl, h, hk, q⟩
theorem r_lstRg {tr : L2.St → Hp → (Int → Int → Hp → Prop) → Prop} (h : tr σ H fun a b H1 => RgOk a b ∧ ∀ q, H1 q = none → Q (.ref q) (upd H1 q (.lst (rgV a b)))) : tLstRg tr σ H Q := h
theorem r_rg1 {ta : TE} {Q : Int → Int → Hp → Prop} (h : ta σ H fun x H1 => ∃ n, x = .int n ∧ Q 0 n H1) : tRg1 ta σ H Q := h
theorem r_gTup {n : Nat} {t : TGs} {a : Addr} {xs : List V} {Q : L2.St → Hp → Prop} (hs : SqT K H a xs) (hl : xs.length = n) (h : t xs σ H Q) : gTup K n t (.ref a) σ H Q := ⟨a, xs, rfl, hs, hl, h⟩
theorem r_gCons {t : TG} {u : TGs} {v : V} {r : List V} {Q : L2.St → Hp → Prop} (h : t v σ H fun σ' H' => u r σ' H' Q) : gCons t u (v :: r) σ H Q := ⟨v, r, rfl, h⟩
theorem r_gNil {Q : L2.St → Hp → Prop} (h : Q σ H) : gNil [] σ H Q := ⟨rfl, h⟩
theorem r_slL {a : Addr} {xs : List V} {lo hi : Option Int} (hs : SqL K H a xs) (h : ∀ p, H p = none → Q (.ref p) (upd H p (.lst (cutV xs lo hi)))) : rSlL K (.ref a) lo hi H Q := ⟨a, xs, rfl, hs, h⟩
theorem r_slS {l : List Nat} {lo hi : Option Int} (hz : l.length ≤ 1000000) (h : Q (.str (cutS (S l) lo hi)) H) : rSlS (.str (S l)) lo hi H Q := ⟨_, rfl, by rw [S_len]; exact le_line hz, h⟩
theorem r_sum {a : Addr} {ns : List Int} (hs : SqL K H a (ns.map V.int)) (q : Q (.int ns.sum) H) : rSum K [.ref a] H Q := ⟨a, ns, rfl, hs, q⟩
end
/-! ### sizes -/
theorem log2_le {n k : Nat} (h : n < 2 ^ k) (hk : 0 < k) : n.log2 < k := PySem.Flt.log2_lt_of hk h
theorem cmw {i j : Int} (h1 : -(2 ^ 1100) < i) (h2 : i < 2 ^ 1100) (h3 : -(2 ^ 1100) < j) (h4 : j < 2 ^ 1100) : CMulW i j := wide_mul (a := 1100) (b := 1100) (by omega) (by omega) (by decide) (by decide) (by decide)
theorem cms {i j : Int} (h1 : -100000000000000000000 < i) (h2 : i < 100000000000000000000) (h3 : -100000000000000000000 < j) (h4 : j < 100000000000000000000) : CMulW i j := wide_mul (a := 70) (b := 70) (by omega) (by omega) (by decide) (by decide) (by decide)
theorem cdw {i j : Int} (h1 : 0 < j) (h2 : j < 100000000000000000000) : CDivW i j := wide_div (b := 70) h1 (by omega) (by decide) (by decide)
theorem cpw {i : Int} {n : Int} (h1 : 0 ≤ i) (h2 : i < 100000000000000000000) (h3 : 0 ≤ n) (h4 : n ≤ 100000) : CPowW i n := by
  refine ⟨h3, ?_⟩
  have b : Builtin.Int.intBits i ≤ i.natAbs.log2 + 1 := by
    unfold Builtin.Int.intBits
    split <;> omega
  have c : i.natAbs.log2 < 70 := log2_le (by omega) (by decide)
  have d : (Builtin.Int.intBits i : Int) ≤ 70 := by omega
  have e : (Builtin.Int.intBits i : Int) * n ≤ 70 * 100000 := Int.mul_le_mul d h4 h3 (by decide)
  have f : (70 * 100000 : Int) ≤ 2 ^ 27 := by decide
  omega
theorem mulB {x y a b c : Int} (h1 : 0 ≤ x) (h2 : x ≤ a) (h3 : 0 ≤ y) (h4 : y ≤ b) (h5 : a * b ≤ c) : 0 ≤ x * y ∧ x * y ≤ c := by
  refine ⟨Int.mul_nonneg h1 h3, Int.le_trans (Int.mul_le_mul h2 h4 h3 (Int.le_trans h1 h2)) h5⟩
theorem at_mem {xs : List V} {i : Int} (h1 : 0 ≤ i) (h2 : i < xs.length) : ∃ v, atI xs i = some v ∧ v ∈ xs := by
  obtain ⟨j, rfl⟩ := Int.eq_ofNat_of_zero_le h1
  have hj : j < xs.length := by omega
  exact ⟨xs[j], atI_nat (List.getElem?_eq_getElem hj), List.getElem_mem hj⟩
theorem div_sz {x u : Int} {k : Nat} (h1 : 0 ≤ x) (h2 : x.natAbs < 2 ^ k) (h3 : 0 < u) : 0 ≤ x / u ∧ (x / u).natAbs < 2 ^ k := by
  have a : 0 ≤ x / u := Int.ediv_nonneg h1 (Int.le_of_lt h3)
  have b : x / u ≤ x := Int.ediv_le_self _ h1
  exact ⟨a, by omega⟩

/-! ### loops and comprehensions over any walk -/
theorem for_J {J : It} {n : Nat} {g : TG} {tb : TS} {D : Ends} {σ : L2.St} {H : Hp} (Pv : Nat → L2.St → Hp → Prop) (h0 : Pv 0 σ H) (hgo : ∀ i σ H, i < n → Pv i σ H → J.go i H) (hstop : ∀ σ H, Pv n σ H → J.stop n H)
    (hs : ∀ (i : Nat) (x : V) (σ : L2.St) (H H' : Hp), i < n → Pv i σ H → J.yld i H x H' → g x σ H' fun σ2 H2 => tb { D with nx := Pv (i + 1), ct := Pv (i + 1), bk := D.nx } σ2 H2) (hd : ∀ σ H, Pv n σ H → D.nx σ H) :
    ∃ W : Nat → Nat → L2.St → Hp → Prop, (∃ m, W 0 m σ H) ∧ ∀ i m σ H, W i m σ H →
      (J.stop i H ∧ D.nx σ H) ∨ (J.go i H ∧ ∃ N : L2.St → Hp → Prop, (∀ σ' H', N σ' H' → ∃ m', m' < m ∧ W (i + 1) m' σ' H') ∧ ∀ x H', J.yld i H x H' → g x σ H' fun σ2 H2 => tb { D with nx := N, ct := N, bk := D.nx } σ2 H2) := by
  refine ⟨fun i m σ H => m = n - i ∧ i ≤ n ∧ Pv i σ H, ⟨n, by simp, Nat.zero_le _, h0⟩, ?_⟩
  rintro i m σ H ⟨rfl, hi, p⟩
  by_cases hlt : i < n
  · exact .inr ⟨hgo i σ H hlt p, Pv (i + 1), fun σ' H' p' => ⟨n - (i + 1), by omega, rfl, hlt, p'⟩, fun x H' y => hs i x σ H H' hlt p y⟩
  · have : i = n := by omega
    subst this
    exact .inl ⟨hstop σ H p, hd σ H p⟩
theorem lc_J {J : It} {n : Nat} {g : TG} {tt : TT} {te : TE} {vs : List Nat} {σ : L2.St} {H1 : Hp} {D : Addr} {Qd : Hp → Prop} (Pv : Nat → Hp → Prop) (h0 : Pv 0 (upd H1 D (.lst []))) (hgo : ∀ i H, i < n → Pv i H → J.go i H) (hstop : ∀ H, Pv n H → J.stop n H)
    (hs : ∀ (i : Nat) (x : V) (H H' : Hp), i < n → Pv i H → J.yld i H x H' → g x (wipe σ vs) H' fun σ2 H2 => wipe σ2 vs = wipe σ vs ∧ tt σ2 H2 fun b H3 =>
      if b = true then te σ2 H3 fun y H4 => ∃ acc, H4 D = some (.lst acc) ∧ acc.length < sizeLine ∧ Pv (i + 1) (upd H4 D (.lst (acc ++ [y]))) else Pv (i + 1) H3) (hd : ∀ H, Pv n H → Qd H) :
    ∃ W : Nat → Nat → Hp → Prop, (∃ m, W 0 m (upd H1 D (.lst []))) ∧ ∀ i m H, W i m H →
      (J.stop i H ∧ Qd H) ∨ (J.go i H ∧ ∃ Nx : Hp → Prop, (∀ H', Nx H' → ∃ m', m' < m ∧ W (i + 1) m' H') ∧ ∀ x H', J.yld i H x H' → g x (wipe σ vs) H' fun σ2 H2 => wipe σ2 vs = wipe σ vs ∧ tt σ2 H2 fun b H3 =>
        if b = true then te σ2 H3 fun y H4 => ∃ acc, H4 D = some (.lst acc) ∧ acc.length < sizeLine ∧ Nx (upd H4 D (.lst (acc ++ [y]))) else Nx H3) := by
  refine ⟨fun i m H => m = n - i ∧ i ≤ n ∧ Pv i H, ⟨n, by simp, Nat.zero_le _, h0⟩, ?_⟩
  rintro i m H ⟨rfl, hi, p⟩
  by_cases hlt : i < n
  · exact .inr ⟨hgo i H hlt p, Pv (i + 1), fun H' p' => ⟨n - (i + 1), by omega, rfl, hlt, p'⟩, fun x H' y => hs i x H H' hlt p y⟩
  · have : i = n := by omega
    subst this
    exact .inl ⟨hstop H p, hd H p⟩
/-- every turn gives an item: Iv what holds between the turns, Vp of the items -/
theorem lc_acc {J : It} {n : Nat} {g : TG} {te : TE} {vs : List Nat} {σ : L2.St} {H1 : Hp} {D : Addr} {Qd : Hp → Prop} (Iv : Nat → Hp → Prop) (Vp : Nat → V → Prop) (hn : n ≤ 1000000) (h0 : Iv 0 (upd H1 D (.lst [])))
    (stab : ∀ i H acc acc', Iv i H → H D = some (.lst acc) → Iv i (upd H D (.lst acc'))) (hgo : ∀ i H, i < n → Iv i H → J.go i H) (hstop : ∀ H, Iv n H → J.stop n H)
    (hs : ∀ (i : Nat) (x : V) (H H' : Hp) (acc : List V), i < n → Iv i H → H D = some (.lst acc) → J.yld i H x H' → ∀ R : V → Hp → Prop, (∀ v H4, H4 D = some (.lst acc) → Vp i v → Iv (i + 1) H4 → R v H4) →
      g x (wipe σ vs) H' fun σ2 H2 => wipe σ2 vs = wipe σ vs ∧ te σ2 H2 R)
    (hd : ∀ H acc, acc.length = n → (∀ i v, acc[i]? = some v → Vp i v) → H D = some (.lst acc) → Iv n H → Qd H) :
    ∃ W : Nat → Nat → Hp → Prop, (∃ m, W 0 m (upd H1 D (.lst []))) ∧ ∀ i m H, W i m H →
      (J.stop i H ∧ Qd H) ∨ (J.go i H ∧ ∃ Nx : Hp → Prop, (∀ H', Nx H' → ∃ m', m' < m ∧ W (i + 1) m' H') ∧ ∀ x H', J.yld i H x H' → g x (wipe σ vs) H' fun σ2 H2 => wipe σ2 vs = wipe σ vs ∧ tYes σ2 H2 fun b H3 =>
        if b = true then te σ2 H3 fun y H4 => ∃ acc, H4 D = some (.lst acc) ∧ acc.length < sizeLine ∧ Nx (upd H4 D (.lst (acc ++ [y]))) else Nx H3) := by
  refine lc_J (n := n) (fun i H => Iv i H ∧ ∃ acc, acc.length = i ∧ (∀ j v, acc[j]? = some v → Vp j v) ∧ H D = some (.lst acc)) ⟨h0, [], rfl, fun j v e => by simp at e, upd_same⟩ (fun i H hi p => hgo i H hi p.1) (fun H p => hstop H p.1) ?_ ?_
  · rintro i x H H' hi ⟨p, acc, hl, hv, e⟩ y
    refine hs i x H H' acc hi p e y _ fun v H4 e4 vp p4 => ⟨acc, e4, lt_line (by omega), stab _ _ _ _ p4 e4, acc ++ [v], by simp [hl], fun j u ej => ?_, upd_same⟩
    rw [List.getElem?_append] at ej
    split at ej
    · exact hv j u ej
    · have hj : j = i := by
        have := (List.getElem?_eq_some_iff.mp ej).1
        simp at this
        omega
      subst hj
      rw [hl, Nat.sub_self] at ej
      have : v = u := Option.some.inj ej
      exact this ▸ vp
  · rintro H ⟨p, acc, hl, hv, e⟩
    exact hd H acc hl hv e p
theorem all_true {acc : List V} {n : Nat} (hl : acc.length = n) (h : ∀ (i : Nat) v, acc[i]? = some v → v = .bl true) : acc = List.replicate n (.bl true) := by
  rw [← hl]
  exact List.eq_replicate_iff.mpr ⟨rfl, fun b hb => by
    obtain ⟨i, hi, e⟩ := List.getElem_of_mem hb
    exact h i b (by rw [List.getElem?_eq_getElem hi, e])⟩
section
variable {K : PySem.W.Frag} {H : Hp} {Q : VK} {σ : L2.St} {tA : TA}
theorem r_iRng1 {R : It → Hp → Prop} (h : tA σ H fun vs H1 => ∃ j, vs = [.int j] ∧ -(2 ^ 62) ≤ j ∧ j < 2 ^ 62 ∧ R (Itr 0 j.toNat) H1) : iRng1 tA σ H R := h
theorem r_iRng2 {R : It → Hp → Prop} (h : tA σ H fun vs H1 => ∃ i j : Int, vs = [.int i, .int j] ∧ (-(2 ^ 62) ≤ i ∧ i < 2 ^ 62 ∧ -(2 ^ 62) ≤ j ∧ j < 2 ^ 62) ∧ R (Itr i (j - i).toNat) H1) : iRng2 tA σ H R := h
theorem r_iZip {R : It → Hp → Prop} (h : tA σ H fun vs H1 => ∃ a b xs ys, vs = [.ref a, .ref b] ∧ ((SqL K H1 a xs ∧ SqL K H1 b ys ∧ R (Itz K a b) H1) ∨ (SqT K H1 a xs ∧ SqT K H1 b ys ∧ R (RZ.ItzT K a b) H1))) : RZ.iZipA K tA σ H R := h
theorem r_then {ta : TE} {k : V → Hp → VK → Prop} (h : ta σ H fun x H1 => k x H1 Q) : tThen ta k σ H Q := h
end
/-- told and due are the same data, nested so deep; bo: truth values, too -/
def Sc (bo : Bool) (x y : V) : Prop := (∃ i, x = .int i ∧ y = .int i) ∨ (∃ l, x = .str l ∧ y = .str l) ∨ (x = .non ∧ y = .non) ∨ (bo = true ∧ ∃ b, x = .bl b ∧ y = .bl b)
def Eqv (K : PySem.W.Frag) (H : Hp) (bo : Bool) : Nat → V → V → Prop
  | 0, x, y => Sc bo x y
  | n + 1, x, y => Sc bo x y ∨ ∃ a b xs ys, x = .ref a ∧ y = .ref b ∧ SqT K H a xs ∧ SqT K H b ys ∧ xs.length = ys.length ∧ xs.length ≤ 1000000 ∧ ∀ (i : Nat) (x y : V), xs[i]? = some x → ys[i]? = some y → Eqv K H bo n x y
section
variable {K : PySem.W.Frag} {H H' : Hp} {bo : Bool}
theorem Eqv.same (e : Same H H') : ∀ {n : Nat} {x y : V}, Eqv K H bo n x y → Eqv K H' bo n x y
  | 0, _, _, h => h
  | n + 1, x, y, h => by
    rcases h with h | ⟨a, b, xs, ys, h1, h2, h3, h4, h5, h6, h7⟩
    · exact .inl h
    · exact .inr ⟨a, b, xs, ys, h1, h2, Same.sqt e h3, Same.sqt e h4, h5, h6, fun i x y e1 e2 => Eqv.same e (h7 i x y e1 e2)⟩
theorem Eqv.sc {n : Nat} {x y : V} (h : Sc bo x y) : Eqv K H bo n x y := by
  cases n with
  | zero => exact h
  | succ n => exact .inl h
theorem Eqv.int {n : Nat} {i : Int} : Eqv K H bo n (.int i) (.int i) := Eqv.sc (.inl ⟨i, rfl, rfl⟩)
theorem Eqv.str {n : Nat} {l : Str} : Eqv K H bo n (.str l) (.str l) := Eqv.sc (.inr (.inl ⟨l, rfl, rfl⟩))
theorem Eqv.non {n : Nat} : Eqv K H bo n .non .non := Eqv.sc (.inr (.inr (.inl ⟨rfl, rfl⟩)))
theorem Eqv.bl {n : Nat} {b : Bool} : Eqv K H true n (.bl b) (.bl b) := Eqv.sc (.inr (.inr (.inr ⟨rfl, b, rfl, rfl⟩)))
theorem Eqv.tup {n : Nat} {a b : Addr} {xs ys : List V} (h3 : SqT K H a xs) (h4 : SqT K H b ys) (h5 : xs.length = ys.length) (h6 : xs.length ≤ 1000000)
    (h7 : ∀ (i : Nat) (x y : V), xs[i]? = some x → ys[i]? = some y → Eqv K H bo n x y) : Eqv K H bo (n + 1) (.ref a) (.ref b) := .inr ⟨a, b, xs, ys, rfl, rfl, h3, h4, h5, h6, h7⟩
/-- a tuple of which all items are plain, twice -/
theorem Eqv.flat {n : Nat} {a b : Addr} {xs : List V} (h3 : SqT K H a xs) (h4 : SqT K H b xs) (h6 : xs.length ≤ 1000000) (h7 : ∀ x ∈ xs, Sc bo x x) : Eqv K H bo (n + 1) (.ref a) (.ref b) :=
  Eqv.tup h3 h4 rfl h6 fun i x y e1 e2 => by
    have e : x = y := Option.some.inj (e1.symm.trans e2)
    subst e
    exact Eqv.sc (h7 x (List.mem_of_getElem? e1))
end
/-! ### s[::-1] -/
def rRev : V → Hp → VK → Prop := fun x H Q => ∃ z, x = .str z ∧ z.length ≤ sizeLine ∧ Q (.str ⟨z.cps.toList.reverse.toArray⟩) H
def tRevS (te : TE) : TE := fun σ H Q => te σ H fun x H1 => rRev x H1 Q
theorem rev_pick (z : Str) : ((Builtin.Str.strSliceIndices none none (-1) z.length).filterMap (z.cps[·]?)).toArray = z.cps.toList.reverse.toArray := by
  show ((sliceRange ((z.cps.size : Int) - 1) (-1) (-1)).filterMap (z.cps[·]?)).toArray = _
  rw [PySem.W.krv_sliceRange, PySem.W.krv_range, List.filterMap_reverse, PySem.W.krv_all]
theorem pe_revS {X : Cx} {e : Expr} {te : TE} {k : Nat} {p1 p2 p3 pos : Pos} (he : PE X e te) : PE X (.Subscript e (.Slice none none (some (.UnaryOp .USub (.Constant (.int 1) k p1) p2)) p3) pos) (tRevS te) := by
  refine ⟨fun pins s σ H Q I h => ?_⟩
  refine Subscript_ (thn (he.run pins s σ H _ I h) fun v s1 ⟨x, H1, I1, r1, q1⟩ => ?_)
  obtain ⟨z, rfl, hz, q⟩ := q1
  obtain ⟨t, rfl⟩ := r1
  have hst : PO X (some (.UnaryOp .USub (.Constant (.int 1) k p1) p2)) (tPart (tUn (rU fun i => .int (-i)) (tC (.int 1)))) := po_some (pe_un un_neg pe_int)
  refine wpAny_Slice (thn (po_none.run pins s1 σ H1 (fun o H2 => o = none ∧ H2 = H1) I1 ⟨rfl, rfl⟩) fun vl s2 ⟨l, H2, I2, pl, el, e2⟩ => ?_)
  subst el e2
  refine thn (po_none.run pins s2 σ H2 (fun o H3 => o = none ∧ H3 = H2) I2 ⟨rfl, rfl⟩) fun vu s3 ⟨u, H3, I3, pu, eu, e3⟩ => ?_
  subst eu e3
  refine thn (hst.run pins s3 σ H3 (fun o H4 => o = some (-1) ∧ H4 = H3) I3 ⟨1, rfl, -1, rfl, rfl, rfl⟩) fun vs s4 ⟨o, H4, I4, ps, eo, e4⟩ => ?_
  subst eo e4
  have I5 : Inv X pins σ H4 { s4 with heap := s4.heap.push { cls := .type "slice", data := .fields #[vl, vu, vs] } } := I4.kept (t' := s4.toks) fun b ob q => Heap.get?_push_of_some _ q
  obtain ⟨l, rfl, hl⟩ := IsPart.raw pl
  obtain ⟨u, rfl, hu⟩ := IsPart.raw pu
  obtain ⟨st, rfl, hs⟩ := IsPart.raw ps
  have hz2 : (⟨((Builtin.Str.strSliceIndices none none (-1) z.length).filterMap (z.cps[·]?)).toArray⟩ : Str).length ≤ sizeLine := by
    rw [rev_pick]
    show (z.cps.toList.reverse.toArray).size ≤ sizeLine
    rw [List.size_toArray, List.length_reverse, Array.length_toList]
    exact hz
  rw [← rev_pick] at q
  refine tail_any (ops := [.ref s4.heap.objs.size, .str z t]) (typeIs_str _ _ _) (F.slot_str_getitem.lookup) ?_ (by with_unfolding_all rfl)
  refine wpAny_getItem_str_slice (l := l) (u := u) (st := st) ⟨_, Heap.get?_push_size _ rfl, rfl, rfl⟩ (by rw [hs]; decide) ?_
  unfold sliceMade
  rw [hs]
  rw [if_neg (by simp)]
  unfold slicePicked
  rw [hs, hl, hu]
  exact ⟨hz2, .str _, _, I5.tok _, ⟨_, rfl⟩, q⟩
/-! ### the head -/
abbrev AlX : Type := He.AlD × Bool
def obsX (n : Nat) (fa : List He.Fa) (fn : List He.DefD) (ex : PySem.W.Frag → Bool) (g : Addr → Option Obj) : AlX := (He.obsDG n fa fn g, ex (He.frG g (He.asD g n)))
def hookX (n : Nat) (fa : List He.Fa) (fn : List He.DefD) (ex : PySem.W.Frag → Bool) : PySem.W.Hook where
  α := AlX
  obs := fun s => obsX n fa fn ex s.heap.get?
  val := fun _ => (He.valD fn, true)
  says := fun _ h => ∃ K : PySem.W.Frag, K.In h ∧ He.SaysD fa fn K ∧ ex K = true
  of := fun _ _ e => ⟨_, He.frG_in, congrArg (fun z : AlX => z.1) e, congrArg (fun z : AlX => z.2) e⟩
  keeps := fun _ _ _ ⟨K, hK, c⟩ k => ⟨K, PySem.W.Frag.In.keeps hK k, c⟩
theorem obsX_eq {n : Nat} {fa : List He.Fa} {fn : List He.DefD} {ex : PySem.W.Frag → Bool} {g : Addr → Option Obj} {s : Shared} (h : ∀ a, g a = s.heap.get? a) : obsX n fa fn ex g = (hookX n fa fn ex).obs s := by
  have e : g = s.heap.get? := funext h
  rw [e] <;> rfl
theorem Ok.at {P : Program} {w : World} {K : PySem.W.Frag} {mg : Str → Option Value} {base : Heap} {CX : CXT} {k : Nat} {x : Str} {st : Stmt} {ps : List Str} {sp : Sp} (o : Ok P w K mg base CX k x st ps sp) {f : Addr} {fd : FuncData} (g : mg x = some (.ref f)) (D : FnP K x st f fd) :
    FnOk P w K mg base CX k f fd ps sp := by
  obtain ⟨f', fd', g', D', b, F⟩ := o.ex
  rw [g] at g'
  cases g'
  obtain ⟨_, _, _, _, _, _, _, _, _, _, e1, l1, _⟩ := D.ex
  obtain ⟨_, _, _, _, _, _, _, _, _, _, e2, l2, _⟩ := D'.ex
  rw [l1] at l2
  have e : fd = fd' := by
    injection l2 with l2
    injection l2 with _ _ l2
    injection l2
  subst e
  exact F
end Tf

set_option linter.all false
set_option maxRecDepth 100000
set_option maxHeartbeats 2000000
/-! mathematics of words, places, numbers -/
namespace Tf
open PySem L2
/-- where a fate stands behind a place -/
def ix (p : Int) (c : Nat) : Nat := if p % 2 = 0 then (if c = 115 then 0 else if c = 110 then 1 else 2) else (if c = 102 then 0 else if c = 110 then 1 else 2)
def pst (p : Int) (c : Nat) : Int := 3 * p + (ix p c : Nat)
def pl (l : List Nat) : Int := l.foldl pst 0
def nu (p : Int) : Int × Int := if p % 2 = 0 then (p, p + 1) else (p + 1, p)
theorem pl_snoc (l : List Nat) (c : Nat) : pl (l ++ [c]) = pst (pl l) c := by unfold pl; rw [List.foldl_append]; rfl
theorem take_snoc {l : List Nat} {i c : Nat} (e : l[i]? = some c) : l.take (i + 1) = l.take i ++ [c] := by rw [List.take_add_one, e]; rfl
theorem behind_ix (p : Int) {c : Nat} (h : c = 110 ∨ c = 102 ∨ c = 115) : ∃ z : List Nat, atI [V.str (S [115, 110, 102]), V.str (S [102, 110, 115])] (p % 2) = some (.str (S z)) ∧ ∃ rest, Builtin.Str.occurrences (S z) (S [c]) 0 (S z).length 1 = ix p c :: rest := by
  rcases (show p % 2 = 0 ∨ p % 2 = 1 by omega) with e | e
  · refine ⟨[115, 110, 102], by rw [e]; rfl, ?_⟩
    rcases h with rfl | rfl | rfl
    · exact ⟨[], by unfold ix; rw [if_pos e]; decide +kernel⟩
    · exact ⟨[], by unfold ix; rw [if_pos e]; decide +kernel⟩
    · exact ⟨[], by unfold ix; rw [if_pos e]; decide +kernel⟩
  · refine ⟨[102, 110, 115], by rw [e]; rfl, ?_⟩
    have e' : ¬ p % 2 = 0 := by omega
    rcases h with rfl | rfl | rfl
    · exact ⟨[], by unfold ix; rw [if_neg e']; decide +kernel⟩
    · exact ⟨[], by unfold ix; rw [if_neg e']; decide +kernel⟩
    · exact ⟨[], by unfold ix; rw [if_neg e']; decide +kernel⟩
/-- hearing -/
def hst (q : Int × Int) (c : Nat) : Int × Int := (if c = 115 then 3 * q.1 else q.1 + 2 * q.2, if c = 102 then 3 * q.2 else q.2 + 2 * q.1)
theorem hst_nu (p : Int) {c : Nat} (h : c = 110 ∨ c = 102 ∨ c = 115) : hst (nu p) c = nu (pst p c) := by
  unfold hst nu pst ix
  rcases (show p % 2 = 0 ∨ p % 2 = 1 by omega) with e | e
  · rcases h with rfl | rfl | rfl <;> simp [e] <;> split <;> simp <;> omega
  · rcases h with rfl | rfl | rfl <;> simp [e] <;> split <;> simp <;> omega
theorem ix_le (p : Int) (c : Nat) : ix p c ≤ 2 := by unfold ix; split <;> split <;> (try split) <;> omega
theorem pl_nn (l : List Nat) : 0 ≤ pl l := by
  have key : ∀ (l : List Nat) (p : Int), 0 ≤ p → 0 ≤ l.foldl pst p := by
    intro l
    induction l with
    | nil => intro p h; exact h
    | cons c l ih => intro p h; rw [List.foldl_cons]; exact ih _ (by unfold pst; omega)
  exact key l 0 (by decide)
theorem pl_lt (l : List Nat) : pl l < 3 ^ l.length := by
  have key : ∀ (l : List Nat) (p m : Int), p < m → 0 ≤ p → l.foldl pst p < m * 3 ^ l.length := by
    intro l
    induction l with
    | nil => intro p m h _; simpa using h
    | cons c l ih =>
      intro p m h h0
      rw [List.foldl_cons, List.length_cons, Int.pow_succ]
      have h1 := ix_le p c
      have := ih (pst p c) (3 * m) (by unfold pst; omega) (by unfold pst; omega)
      have e : 3 * m * 3 ^ l.length = m * (3 ^ l.length * 3) := by rw [Int.mul_comm (3 ^ l.length) 3, ← Int.mul_assoc, Int.mul_comm m 3]
      rw [← e]
      exact this
  have := key l 0 1 (by decide) (by decide)
  rw [Int.one_mul] at this
  exact this
theorem pow3_pos (n : Nat) : (0 : Int) < 3 ^ n := Int.pow_pos (by decide)
theorem pow3_odd (n : Nat) : (3 : Int) ^ n % 2 = 1 := by
  induction n with
  | zero => rfl
  | succ n ih => rw [Int.pow_succ]; omega
/-- the left end -/
theorem pl_zero (l : List Nat) (h : Wd l) : pl l = 0 ↔ l = List.replicate l.length 115 := by
  have key : ∀ (l : List Nat), Wd l → ∀ p : Int, 0 ≤ p → (l.foldl pst p = 0 ↔ p = 0 ∧ l = List.replicate l.length 115) := by
    intro l
    induction l with
    | nil => intro _ p hp; simp
    | cons c l ih =>
      intro hw p hp
      have hc := hw c List.mem_cons_self
      have hl : Wd l := fun x hx => hw x (List.mem_cons_of_mem _ hx)
      have h0 : 0 ≤ pst p c := by unfold pst; omega
      rw [List.foldl_cons, ih hl _ h0, List.length_cons, List.replicate_succ, List.cons.injEq]
      have : pst p c = 0 ↔ p = 0 ∧ c = 115 := by
        constructor
        · intro e
          have hp0 : p = 0 := by unfold pst at e; omega
          subst hp0
          refine ⟨rfl, ?_⟩
          unfold pst ix at e
          rcases hc with rfl | rfl | rfl
          · exact absurd e (by decide)
          · exact absurd e (by decide)
          · rfl
        · rintro ⟨rfl, rfl⟩
          decide
      rw [this, and_assoc]
  have := key l h 0 (by decide)
  unfold pl
  rw [this]
  simp
/-- the right end -/
theorem pl_top (l : List Nat) (h : Wd l) : pl l = 3 ^ l.length - 1 ↔ l = List.replicate l.length 102 := by
  have key : ∀ (l : List Nat), Wd l → ∀ p m : Int, 0 ≤ p → p ≤ m → m % 2 = 0 → (l.foldl pst p = (m + 1) * 3 ^ l.length - 1 ↔ p = m ∧ l = List.replicate l.length 102) := by
    intro l
    induction l with
    | nil => intro _ p m _ _ _; simp
    | cons c l ih =>
      intro hw p m hp hm he
      have hc := hw c List.mem_cons_self
      have hl : Wd l := fun x hx => hw x (List.mem_cons_of_mem _ hx)
      have h0 : 0 ≤ pst p c := by unfold pst; omega
      have h1 := ix_le p c
      have h2 : pst p c ≤ 3 * m + 2 := by unfold pst; omega
      have e1 : (m + 1) * 3 ^ (l.length + 1) - 1 = (3 * m + 2 + 1) * 3 ^ l.length - 1 := by
        rw [Int.pow_succ, Int.mul_comm (3 ^ l.length) 3, ← Int.mul_assoc, show (m + 1) * 3 = 3 * m + 2 + 1 by omega]
      rw [List.foldl_cons, List.length_cons, e1, ih hl _ (3 * m + 2) h0 h2 (by omega), List.replicate_succ, List.cons.injEq]
      have : pst p c = 3 * m + 2 ↔ p = m ∧ c = 102 := by
        constructor
        · intro e
          have hp0 : p = m := by unfold pst at e; omega
          subst hp0
          refine ⟨rfl, ?_⟩
          unfold pst ix at e
          rw [if_pos he] at e
          rcases hc with rfl | rfl | rfl
          · simp at e
          · rfl
          · simp at e; omega
        · rintro ⟨rfl, rfl⟩
          unfold pst ix
          rw [if_pos he]
          simp
      rw [this, and_assoc]
  have := key l h 0 0 (by decide) (by decide) (by decide)
  unfold pl
  simp only [Int.zero_add, Int.one_mul] at this
  rw [this]
  simp
theorem fate_of {x : V} (h : x ∈ ([110, 102, 115] : List Nat).map fun c => V.str (S [c])) : ∃ c : Nat, x = .str (S [c]) ∧ (c = 110 ∨ c = 102 ∨ c = 115) := by
  simp only [List.map_cons, List.map_nil, List.mem_cons, List.not_mem_nil, or_false] at h
  rcases h with rfl | rfl | rfl
  · exact ⟨110, rfl, by decide⟩
  · exact ⟨102, rfl, by decide⟩
  · exact ⟨115, rfl, by decide⟩
theorem chars_of : ∀ {acc : List V}, (∀ (i : Nat) (v : V), acc[i]? = some v → ∃ c : Nat, v = .str (S [c]) ∧ (c = 110 ∨ c = 102 ∨ c = 115)) → ∃ l : List Nat, acc = l.map (fun c => V.str (S [c])) ∧ Wd l ∧ l.length = acc.length
  | [], _ => ⟨[], rfl, Wd.nil, rfl⟩
  | v :: r, h => by
    obtain ⟨c, rfl, hc⟩ := h 0 v rfl
    obtain ⟨l, e1, e2, e3⟩ := chars_of (acc := r) fun i u e => h (i + 1) u e
    exact ⟨c :: l, by rw [e1]; rfl, fun x hx => by
      rcases List.mem_cons.mp hx with rfl | hx
      · exact hc
      · exact e2 x hx, by rw [List.length_cons, List.length_cons, e3]⟩
theorem flat_one : ∀ l : List Nat, (l.map fun c => [c]).flatten = l
  | [] => rfl
  | c :: l => by rw [List.map_cons, List.flatten_cons, flat_one l]; rfl
theorem r_joinC {K : PySem.W.Frag} {H : Hp} {Q : VK} {p : Addr} {l : List Nat} (hs : SqL K H p (l.map fun c => V.str (S [c]))) (hz : l.length ≤ 1000000) (q : Q (.str (S l)) H) : rJoin K (.str (S [])) [.ref p] H Q :=
  r_join (ys := l.map fun c => [c]) (by rw [List.map_map]; exact hs) (by rw [flat_one]; exact hz) (by rw [flat_one]; exact q)
theorem cut_take (l : List Nat) (n : Nat) : cutS (S l) none (some (n : Int)) = S (l.take n) := by
  by_cases h : n ≤ l.length
  · exact cut_to h
  · rw [cut_S, HT.sIx_nat, HT.sIx_none, List.take_of_length_le (show l.length ≤ n by omega)]
    simp
    congr 1
    exact List.take_of_length_le (by omega)
theorem rep_one (n c : Nat) : (List.replicate n [c]).flatten = List.replicate n c := by
  induction n with
  | zero => rfl
  | succ n ih => rw [List.replicate_succ, List.flatten_cons, ih, List.replicate_succ]; rfl
end Tf

set_option linter.all false
set_option maxRecDepth 100000
set_option maxHeartbeats 2000000
/-! mathematics of losses: endless rows that come again -/
namespace Tf
open PySem L2
/-- the row of head and ring -/
def rw (h r : List Nat) (i : Nat) : Nat := if i < h.length then h.getD i 0 else r.getD ((i - h.length) % r.length) 0
/-- f comes again after p, from m on -/
def Per (f : Nat → Nat) (m p : Nat) : Prop := ∀ i, m ≤ i → f (i + p) = f i
def seg (f : Nat → Nat) (a n : Nat) : List Nat := (List.range n).map fun j => f (a + j)
theorem seg_len (f : Nat → Nat) (a n : Nat) : (seg f a n).length = n := by simp [seg]
theorem seg_get {f : Nat → Nat} {a n i : Nat} (h : i < n) : (seg f a n)[i]? = some (f (a + i)) := by
  unfold seg
  rw [List.getElem?_map, List.getElem?_range h] <;> rfl
theorem seg_getD {f : Nat → Nat} {a n i : Nat} (h : i < n) : (seg f a n).getD i 0 = f (a + i) := by
  rw [List.getD_eq_getElem?_getD, seg_get h] <;> rfl
theorem seg_ext {f g : Nat → Nat} {a b n : Nat} (h : ∀ i, i < n → f (a + i) = g (b + i)) : seg f a n = seg g b n := by
  unfold seg
  exact List.map_congr_left fun i hi => h i (List.mem_range.mp hi)
theorem seg_inj {f g : Nat → Nat} {a b n : Nat} (h : seg f a n = seg g b n) : ∀ i, i < n → f (a + i) = g (b + i) := fun i hi => by
  have e := congrArg (fun l : List Nat => l[i]?) h
  simp only [seg_get hi] at e
  exact Option.some.inj e
theorem seg_take {f : Nat → Nat} {a n m : Nat} (h : m ≤ n) : (seg f a n).take m = seg f a m := by
  apply List.ext_getElem?
  intro i
  by_cases hi : i < m
  · rw [List.getElem?_take_of_lt hi, seg_get (by omega), seg_get hi]
  · rw [List.getElem?_eq_none (by rw [List.length_take, seg_len]; omega), List.getElem?_eq_none (by rw [seg_len]; omega)]
theorem seg_drop {f : Nat → Nat} {a n m : Nat} : (seg f a n).drop m = seg f (a + m) (n - m) := by
  apply List.ext_getElem?
  intro i
  rw [List.getElem?_drop]
  by_cases hi : i < n - m
  · rw [seg_get (by omega), seg_get hi, Nat.add_assoc]
  · rw [List.getElem?_eq_none (by rw [seg_len]; omega), List.getElem?_eq_none (by rw [seg_len]; omega)]
theorem seg_self (l : List Nat) : l = seg (fun i => l.getD i 0) 0 l.length := by
  apply List.ext_getElem?
  intro i
  by_cases hi : i < l.length
  · rw [seg_get hi, Nat.zero_add, List.getD_eq_getElem?_getD, List.getElem?_eq_getElem hi] <;> rfl
  · rw [List.getElem?_eq_none (by omega), List.getElem?_eq_none (by rw [seg_len]; omega)]
theorem seg_app {f : Nat → Nat} {a n m : Nat} : seg f a n ++ seg f (a + n) m = seg f a (n + m) := by
  apply List.ext_getElem?
  intro i
  rw [List.getElem?_append, seg_len]
  split
  · rename_i h
    rw [seg_get h, seg_get (by omega)]
  · rename_i h
    by_cases hi : i < n + m
    · rw [seg_get (by omega), seg_get hi]
      congr 2
      omega
    · rw [List.getElem?_eq_none (by rw [seg_len]; omega), List.getElem?_eq_none (by rw [seg_len]; omega)]

theorem Per.mono {f : Nat → Nat} {m m' p : Nat} (h : Per f m p) (hm : m ≤ m') : Per f m' p := fun i hi => h i (by omega)
theorem Per.mul {f : Nat → Nat} {m p : Nat} (h : Per f m p) : ∀ k, Per f m (p * k)
  | 0 => fun i _ => rfl
  | k + 1 => fun i hi => by
    have e := Per.mul h k (i + p) (by omega)
    rw [Nat.mul_succ, show i + (p * k + p) = i + p + p * k by omega, e]
    exact h i hi
theorem rw_lt {h r : List Nat} {i : Nat} (e : i < h.length) : rw h r i = h.getD i 0 := if_pos e
theorem rw_ge {h r : List Nat} {i : Nat} (e : h.length ≤ i) : rw h r i = r.getD ((i - h.length) % r.length) 0 := if_neg (by omega)
theorem rw_per (h r : List Nat) : Per (rw h r) h.length r.length := fun i hi => by
  rw [rw_ge (by omega), rw_ge hi, show i + r.length - h.length = i - h.length + r.length by omega, Nat.add_mod_right]
/-- a row that comes again is told by its beginning -/
theorem per_rw {f : Nat → Nat} {m p : Nat} (h : Per f m p) (hp : 0 < p) : rw (seg f 0 m) (seg f m p) = f := by
  funext i
  by_cases hi : i < m
  · rw [rw_lt (by rw [seg_len]; exact hi), seg_getD hi, Nat.zero_add]
  · rw [rw_ge (by rw [seg_len]; omega), seg_len, seg_len, seg_getD (Nat.mod_lt _ hp)]
    have e := h.mul ((i - m) / p) (m + (i - m) % p) (by omega)
    rw [← e]
    congr 1
    have := Nat.mod_add_div (i - m) p
    omega
theorem rw_head (h r : List Nat) : seg (rw h r) 0 h.length = h := by
  conv => rhs; rw [seg_self h]
  exact seg_ext fun i hi => by rw [Nat.zero_add]; exact rw_lt hi
theorem rw_ring (h r : List Nat) : seg (rw h r) h.length r.length = r := by
  conv => rhs; rw [seg_self r]
  exact seg_ext fun i hi => by
    rw [rw_ge (by omega), Nat.zero_add, Nat.add_sub_cancel_left, Nat.mod_eq_of_lt hi]
/-- two rows that agree so far agree for ever -/
theorem fine_wilf {f g : Nat → Nat} {m p q : Nat} (hf : Per f m p) (hg : Per g m q) (hp : 0 < p) (hq : 0 < q) (e : ∀ i, i < m + p + q → f i = g i) : f = g := by
  funext i
  induction i using Nat.strongRecOn with
  | _ i ih =>
    by_cases hi : i < m + p + q
    · exact e i hi
    · have f1 : f i = f (i - p) := by
        have := hf (i - p) (by omega)
        rwa [show i - p + p = i by omega] at this
      have g1 : g i = g (i - q) := by
        have := hg (i - q) (by omega)
        rwa [show i - q + q = i by omega] at this
      have f2 : f (i - q) = f (i - q - p) := by
        have := hf (i - q - p) (by omega)
        rwa [show i - q - p + p = i - q by omega] at this
      have g2 : g (i - p) = g (i - p - q) := by
        have := hg (i - p - q) (by omega)
        rwa [show i - p - q + q = i - p by omega] at this
      rw [f1, ih (i - p) (by omega), g2, show i - p - q = i - q - p by omega, ← ih (i - q - p) (by omega), ← f2, ih (i - q) (by omega), ← g1]
/-- the least: the shortest head, then the shortest ring -/
structure IsMin (f : Nat → Nat) (m p : Nat) : Prop where
  pos : 0 < p
  per : Per f m p
  head : ∀ m' p', 0 < p' → Per f m' p' → m ≤ m'
  ring : ∀ p', 0 < p' → Per f m p' → p ≤ p'
theorem IsMin.uniq {f : Nat → Nat} {m p m' p' : Nat} (a : IsMin f m p) (b : IsMin f m' p') : m = m' ∧ p = p' := by
  have e : m = m' := Nat.le_antisymm (a.head _ _ b.pos b.per) (b.head _ _ a.pos a.per)
  subst e
  exact ⟨rfl, Nat.le_antisymm (a.ring _ b.pos b.per) (b.ring _ a.pos a.per)⟩
theorem per_down {f : Nat → Nat} {m m' p q : Nat} (hp : Per f m p) (h0 : 0 < p) (hq : Per f m' q) : Per f m q := fun i hi => by
  have e1 := hp.mul m' i hi
  have e2 := hp.mul m' (i + q) (by omega)
  have : m' ≤ i + p * m' := by
    have : 1 * m' ≤ p * m' := Nat.mul_le_mul_right _ h0
    omega
  have e3 := hq (i + p * m') this
  rw [← e2, ← e1, ← e3]
  congr 1
  omega
theorem IsMin.le {f : Nat → Nat} {m p m' p' : Nat} (a : IsMin f m p) (h0 : 0 < p') (h : Per f m' p') : m ≤ m' ∧ p ≤ p' := ⟨a.head _ _ h0 h, a.ring _ h0 (per_down a.per a.pos h)⟩
theorem least_ex {P : Nat → Prop} (n : Nat) (h : P n) : ∃ m, P m ∧ ∀ k, P k → m ≤ k := by
  induction n using Nat.strongRecOn with
  | _ n ih =>
    by_cases e : ∃ k, k < n ∧ P k
    · obtain ⟨k, hk, pk⟩ := e
      exact ih k hk pk
    · exact ⟨n, h, fun k pk => by
        by_cases hk : k < n
        · exact absurd ⟨k, hk, pk⟩ e
        · omega⟩
/-- of all periods the least one goes into each -/
theorem per_dvd {f : Nat → Nat} {m p q : Nat} (h0 : 0 < p) (hp : Per f m p) (hl : ∀ p', 0 < p' → Per f m p' → p ≤ p') (hq : Per f m q) : p ∣ q := by
  have h : Per f m (q % p) := fun i hi => by
    have e := hp.mul (q / p) (i + q % p) (by omega)
    rw [show i + q % p + p * (q / p) = i + q by have := Nat.mod_add_div q p; omega] at e
    rw [← e]
    exact hq i hi
  by_cases z : q % p = 0
  · exact Nat.dvd_of_mod_eq_zero z
  · have := hl _ (Nat.pos_of_ne_zero z) h
    have := Nat.mod_lt q h0
    omega
/-- the letters of a loss, as the row -/
theorem letters_seg {h r : List Nat} {n k : Nat} (hr : 0 < r.length) (hn : n ≤ h.length + k * r.length) : (h ++ (List.replicate k r).flatten).take n = seg (rw h r) 0 n := by
  have key : ∀ k, h ++ (List.replicate k r).flatten = seg (rw h r) 0 (h.length + k * r.length) := by
    intro k
    induction k with
    | zero =>
      rw [Nat.zero_mul, Nat.add_zero, rw_head]
      simp
    | succ k ih =>
      rw [List.replicate_succ', List.flatten_append, ← List.append_assoc, ih, List.flatten_cons, List.flatten_nil, List.append_nil]
      have e : seg (rw h r) (0 + (h.length + k * r.length)) r.length = r := by
        conv => rhs; rw [← rw_ring h r]
        exact seg_ext fun i hi => by
          rw [show 0 + (h.length + k * r.length) + i = h.length + i + r.length * k by rw [Nat.mul_comm]; omega]
          exact (rw_per h r).mul k _ (by omega)
      rw [Nat.succ_mul, ← Nat.add_assoc]
      conv => lhs; rhs; rw [← e]
      exact seg_app
  rw [key k]
  exact seg_take hn
theorem rep_len_mul (k : Nat) (r : List Nat) : (List.replicate k r).flatten.length = k * r.length := by
  induction k with
  | zero => simp
  | succ k ih => rw [List.replicate_succ, List.flatten_cons, List.length_append, ih, Nat.succ_mul, Nat.add_comm]
theorem per_mod {f : Nat → Nat} {p : Nat} (h : Per f 0 p) (i : Nat) : f i = f (i % p) := by
  have e := h.mul (i / p) (i % p) (Nat.zero_le _)
  rw [Nat.mod_add_div] at e
  exact e
theorem seg_nil (f : Nat → Nat) (a : Nat) : seg f a 0 = [] := rfl
theorem take_seg (r : List Nat) {d : Nat} (h : d ≤ r.length) : r.take d = seg (rw [] r) 0 d := by
  conv => lhs; rw [← rw_ring [] r]
  exact seg_take h
theorem ring_check {r : List Nat} {d : Nat} (h0 : 0 < d) (h1 : d ≤ r.length) : (List.replicate (r.length / d) (r.take d)).flatten = r ↔ (Per (rw [] r) 0 d ∧ d ∣ r.length) := by
  have hl : (r.take d).length = d := by rw [List.length_take]; omega
  have e1 : (List.replicate (r.length / d) (r.take d)).flatten = seg (rw [] (r.take d)) 0 (r.length / d * d) := by
    have := letters_seg (h := []) (r := r.take d) (n := r.length / d * d) (k := r.length / d) (by omega) (by rw [hl]; simp)
    rw [← this, List.nil_append]
    exact (List.take_of_length_le (by rw [rep_len_mul, hl]; exact Nat.le_refl _)).symm
  constructor
  · intro e
    have el := congrArg List.length e
    rw [rep_len_mul, hl] at el
    have dv : d ∣ r.length := ⟨r.length / d, by rw [Nat.mul_comm]; exact el.symm⟩
    refine ⟨?_, dv⟩
    rw [e1, el] at e
    have e2 := e.trans (rw_ring [] r).symm
    have pg : Per (rw [] (r.take d)) 0 d := by
      have := rw_per [] (r.take d)
      rw [hl] at this
      exact this
    have pg2 : Per (rw [] (r.take d)) 0 r.length := by
      have := pg.mul (r.length / d)
      rwa [Nat.mul_comm, el] at this
    have pf : Per (rw [] r) 0 r.length := rw_per [] r
    have ef : rw [] r = rw [] (r.take d) := by
      funext i
      rw [per_mod pf i, per_mod pg2 i]
      have := seg_inj e2 (i % r.length) (Nat.mod_lt _ (by omega))
      simpa using this.symm
    rw [ef]
    exact pg
  · rintro ⟨pf, k, hk⟩
    have ek : r.length / d * d = r.length := by rw [hk, Nat.mul_comm d k, Nat.mul_div_cancel _ h0]
    have ef : rw [] (r.take d) = rw [] r := by
      rw [take_seg r h1]
      have := per_rw pf h0
      rw [seg_nil] at this
      exact this
    rw [e1, ek, ef]
    exact rw_ring [] r
/-- from the head on only the ring tells -/
theorem per_tail {h r : List Nat} {q : Nat} : Per (rw h r) h.length q ↔ Per (rw [] r) 0 q := by
  have key : ∀ i, rw h r (h.length + i) = rw [] r i := fun i => by
    rw [rw_ge (by omega), rw_ge (Nat.zero_le i), Nat.add_sub_cancel_left]
    rfl
  constructor
  · intro p i _
    have := p (h.length + i) (by omega)
    rwa [Nat.add_assoc, key, key] at this
  · intro p i hi
    obtain ⟨j, rfl⟩ : ∃ j, i = h.length + j := ⟨i - h.length, by omega⟩
    rw [Nat.add_assoc, key, key]
    exact p j (Nat.zero_le _)
/-- head and ring while the head is made shorter -/
structure LInv (f : Nat → Nat) (a b : List Nat) : Prop where
  row : rw a b = f
  pos : 0 < b.length
  least : ∀ p', 0 < p' → Per f a.length p' → b.length ≤ p'
theorem short_pos {r : List Nat} {p : Nat} (hr : 0 < r.length) (m : IsMin (rw [] r) 0 p) : p ≤ r.length := m.ring _ hr (rw_per [] r)
theorem linv_start {h r : List Nat} {p : Nat} (hr : 0 < r.length) (m : IsMin (rw [] r) 0 p) : LInv (rw h r) h (r.take p) := by
  have hp := short_pos hr m
  have hl : (r.take p).length = p := by rw [List.length_take]; omega
  have ef : rw [] (r.take p) = rw [] r := by
    rw [take_seg r hp]
    have := per_rw m.per m.pos
    rw [seg_nil] at this
    exact this
  refine ⟨?_, by rw [hl]; exact m.pos, fun p' h0 hq => by rw [hl]; exact m.ring p' h0 (per_tail.mp hq)⟩
  funext i
  by_cases hi : i < h.length
  · rw [rw_lt hi, rw_lt hi]
  · have e := congrFun ef (i - h.length)
    rw [rw_ge (Nat.zero_le _), rw_ge (Nat.zero_le _)] at e
    rw [rw_ge (by omega), rw_ge (by omega)]
    exact e
theorem linv_step {f : Nat → Nat} {a b : List Nat} {c : Nat} (v : LInv f (a ++ [c]) (b ++ [c])) : LInv f a (c :: b) := by
  have e1 := rw_head (a ++ [c]) (b ++ [c])
  have e2 := rw_ring (a ++ [c]) (b ++ [c])
  have pf := rw_per (a ++ [c]) (b ++ [c])
  rw [v.row] at e1 e2 pf
  have la : (a ++ [c]).length = a.length + 1 := by simp
  have lb : (b ++ [c]).length = b.length + 1 := by simp
  rw [la] at e1 e2 pf
  rw [lb] at e2 pf
  have fa : f a.length = c := by
    have := congrArg (fun l : List Nat => l[a.length]?) e1
    simp only [seg_get (show a.length < a.length + 1 by omega), Nat.zero_add] at this
    rw [List.getElem?_append_right (Nat.le_refl _)] at this
    simpa using this
  have fb : f (a.length + 1 + b.length) = c := by
    have := congrArg (fun l : List Nat => l[b.length]?) e2
    simp only [seg_get (show b.length < b.length + 1 by omega)] at this
    rw [List.getElem?_append_right (Nat.le_refl _)] at this
    simpa using this
  have pf2 : Per f a.length (b.length + 1) := fun i hi => by
    by_cases h : i = a.length
    · subst h
      rw [show a.length + (b.length + 1) = a.length + 1 + b.length by omega, fb, fa]
    · exact pf i (by omega)
  have s1 : seg f 0 a.length = a := by
    have := congrArg (fun l : List Nat => l.take a.length) e1
    simp only [seg_take (show a.length ≤ a.length + 1 by omega)] at this
    simpa using this
  have s2 : seg f a.length (b.length + 1) = c :: b := by
    have h1 : seg f a.length 1 ++ seg f (a.length + 1) b.length = seg f a.length (1 + b.length) := seg_app
    rw [Nat.add_comm b.length 1, ← h1]
    have h2 : seg f a.length 1 = [c] := by simp [seg, fa]
    have h3 := congrArg (fun l : List Nat => l.take b.length) e2
    simp only [seg_take (show b.length ≤ b.length + 1 by omega)] at h3
    rw [h2, h3]
    simp
  have row := per_rw pf2 (by omega)
  rw [s1, s2] at row
  refine ⟨row, by simp, fun p' h0 hq => ?_⟩
  have := v.least p' h0 (hq.mono (by simp))
  simpa using this
theorem linv_end {f : Nat → Nat} {a b : List Nat} (v : LInv f a b) (h : a = [] ∨ ∃ a' b' x y, a = a' ++ [x] ∧ b = b' ++ [y] ∧ x ≠ y) : IsMin f a.length b.length := by
  have pf := rw_per a b
  rw [v.row] at pf
  refine ⟨v.pos, pf, fun m' p' h0 hq => ?_, v.least⟩
  rcases h with rfl | ⟨a', b', x, y, rfl, rfl, ne⟩
  · exact Nat.zero_le _
  · refine Nat.le_of_not_lt fun hlt => ne ?_
    have la : (a' ++ [x]).length = a'.length + 1 := by simp
    have lb : (b' ++ [y]).length = b'.length + 1 := by simp
    have e1 := rw_head (a' ++ [x]) (b' ++ [y])
    have e2 := rw_ring (a' ++ [x]) (b' ++ [y])
    have dv := per_dvd (q := p') v.pos pf v.least (hq.mono (by omega))
    rw [v.row] at e1 e2
    rw [la] at e1 e2 pf hlt
    rw [lb] at e2 pf dv
    have fa : f a'.length = x := by
      have := congrArg (fun l : List Nat => l[a'.length]?) e1
      simp only [seg_get (show a'.length < a'.length + 1 by omega), Nat.zero_add] at this
      rw [List.getElem?_append_right (Nat.le_refl _)] at this
      simpa using this
    have fb : f (a'.length + 1 + b'.length) = y := by
      have := congrArg (fun l : List Nat => l[b'.length]?) e2
      simp only [seg_get (show b'.length < b'.length + 1 by omega)] at this
      rw [List.getElem?_append_right (Nat.le_refl _)] at this
      simpa using this
    obtain ⟨k, rfl⟩ := dv
    obtain ⟨j, rfl⟩ : ∃ j, k = j + 1 := ⟨k - 1, by
      have : k ≠ 0 := fun z => by subst z; simp at h0
      omega⟩
    have e3 := hq a'.length (by omega)
    have e4 := pf.mul j (a'.length + 1 + b'.length) (by omega)
    rw [← fa, ← fb, ← e4, ← e3]
    congr 1
    rw [Nat.mul_succ]
    omega
/-- a, b is the least form of h, r -/
structure Least (h r a b : List Nat) : Prop where
  row : rw a b = rw h r
  min : IsMin (rw h r) a.length b.length
theorem Least.of {h r a b : List Nat} (v : LInv (rw h r) a b) (e : a = [] ∨ ∃ a' b' x y, a = a' ++ [x] ∧ b = b' ++ [y] ∧ x ≠ y) : Least h r a b := ⟨v.row, linv_end v e⟩
theorem Least.uniq {h r h' r' a b a' b' : List Nat} (e : rw h r = rw h' r') (x : Least h r a b) (y : Least h' r' a' b') : a = a' ∧ b = b' := by
  have y2 := y.min
  rw [← e] at y2
  obtain ⟨e1, e2⟩ := x.min.uniq y2
  have r1 := rw_head a b
  have r2 := rw_head a' b'
  have r3 := rw_ring a b
  have r4 := rw_ring a' b'
  rw [x.row] at r1 r3
  rw [y.row, ← e] at r2 r4
  exact ⟨by rw [← r1, ← r2, e1], by rw [← r3, ← r4, e1, e2]⟩
theorem Least.bound {h r a b : List Nat} (hr : 0 < r.length) (x : Least h r a b) : a.length ≤ h.length ∧ b.length ≤ r.length ∧ 0 < b.length :=
  let ⟨h1, h2⟩ := x.min.le hr (rw_per h r)
  ⟨h1, h2, x.min.pos⟩
/-- the law's own test: the first so many letters of a candidate -/
theorem cand_check {h r : List Nat} {m p n : Nat} (hr : 0 < r.length) (hp : 0 < p) (hm : m ≤ h.length) (hp2 : p ≤ r.length) (hn : h.length + r.length + p ≤ n) :
    seg (rw (seg (rw h r) 0 m) (seg (rw h r) m p)) 0 n = seg (rw h r) 0 n ↔ Per (rw h r) m p := by
  constructor
  · intro e
    have pg := rw_per (seg (rw h r) 0 m) (seg (rw h r) m p)
    rw [seg_len, seg_len] at pg
    have ef := fine_wilf (rw_per h r) (pg.mono hm) hr hp fun i hi => by
      have := seg_inj e i (by omega)
      simpa using this.symm
    rw [ef]
    exact pg
  · intro pf
    rw [per_rw pf hp]
theorem ok_S {l : List Nat} (h : Wd l) : PyData.strOk (S l) = true := by
  unfold PyData.strOk S
  rw [← Array.all_toList]
  exact List.all_eq_true.mpr fun c hc => decide_eq_true (by rcases h c hc with e | e | e <;> omega)
theorem S_beq (a b : List Nat) : (S a == S b) = decide (a = b) := SX.S_beq_eq
/-- == of two tuples of two texts -/
theorem r_eqSS {K : PySem.W.Frag} {H : Hp} {Q : VK} {x y : Addr} {a b c d : List Nat} (h1 : SqT K H x [.str (S a), .str (S b)]) (h2 : SqT K H y [.str (S c), .str (S d)]) (oa : Wd a) (ob : Wd b) (oc : Wd c) (od : Wd d)
    (q : Q (.bl (decide (a = c ∧ b = d))) H) : rEqD K (.ref x) (.ref y) H Q := by
  refine ⟨_, _, .tup h1 (.cons (.str _) (.cons (.str _) .nil)), .tup h2 (.cons (.str _) (.cons (.str _) .nil)), ?_, ?_, ?_⟩
  · unfold SeqAt.shaped
    simp only [PyData.canLay0, PyData.canLayAll0, ok_S oa, ok_S ob, PyData.depth, PyData.depthAll]
    rfl
  · unfold SeqAt.shaped
    simp only [PyData.canLay0, PyData.canLayAll0, ok_S oc, ok_S od, PyData.depth, PyData.depthAll]
    rfl
  · have e : PyData.eqv (.tuple [.str (S a), .str (S b)]) (.tuple [.str (S c), .str (S d)]) = decide (a = c ∧ b = d) := by
      simp only [PyData.eqv, PyData.eqvAll, Bool.and_true, S_beq, Bool.decide_and]
    rw [e]
    exact q
theorem Least.wd {h r a b : List Nat} (hr : 0 < r.length) (wh : Wd h) (wr : Wd r) (x : Least h r a b) : Wd a ∧ Wd b := by
  have w : ∀ i, rw h r i = 110 ∨ rw h r i = 102 ∨ rw h r i = 115 := fun i => by
    by_cases hi : i < h.length
    · rw [rw_lt hi, List.getD_eq_getElem?_getD, List.getElem?_eq_getElem hi]
      exact wh _ (List.getElem_mem hi)
    · have hm : (i - h.length) % r.length < r.length := Nat.mod_lt _ hr
      rw [rw_ge (by omega), List.getD_eq_getElem?_getD, List.getElem?_eq_getElem hm]
      exact wr _ (List.getElem_mem hm)
  have ws : ∀ a n, Wd (seg (rw h r) a n) := fun a n c hc => by
    unfold seg at hc
    obtain ⟨j, _, e⟩ := List.mem_map.mp hc
    rw [← e]
    exact w _
  have e1 := rw_head a b
  have e2 := rw_ring a b
  rw [x.row] at e1 e2
  exact ⟨e1 ▸ ws 0 a.length, e2 ▸ ws a.length b.length⟩
theorem atI_neg (l : List Nat) (c : Nat) : atI (l ++ [c]) (-1) = some c := atI_last _ _
theorem cut_last (l : List Nat) (c : Nat) : cutS (S (l ++ [c])) none (some (-1)) = S l := by
  rw [cut_S, HT.sIx_none]
  have e : HT.sIx (l ++ [c]).length (l ++ [c]).length (some (-1)) = l.length := by
    show (if (-1 : Int) < 0 then ((-1 : Int) + ((l ++ [c]).length : Int)).toNat else min (-1 : Int).toNat (l ++ [c]).length) = l.length
    rw [if_pos (by decide), List.length_append]
    simp
    omega
  rw [e]
  simp
theorem snoc_of {l : List Nat} (h : 0 < l.length) : ∃ a c, l = a ++ [c] := ⟨l.dropLast, l.getLast (by intro z; subst z; simp at h), (List.dropLast_concat_getLast _).symm⟩
theorem r_ixS {H : Hp} {Q : VK} {l : List Nat} {i : Int} {c : Nat} (hl : l.length ≤ 1000000) (h : atI l i = some c) (q : Q (.str (S [c])) H) : rIxS (.str (S l)) (.int i) H Q := ⟨_, i, c, rfl, rfl, by rw [S_len]; exact le_line hl, by rw [S_codes]; exact h, q⟩
/-! ### the same row told otherwise -/
theorem rw_longer {h r : List Nat} (r0 : 0 < r.length) : rw (h ++ r) r = rw h r := by
  have pf := rw_per h r
  have := per_rw (pf.mono (show h.length ≤ h.length + r.length by omega)) r0
  have e1 : seg (rw h r) 0 (h.length + r.length) = h ++ r := by
    rw [← seg_app, rw_head, Nat.zero_add, rw_ring]
  have e2 : seg (rw h r) (h.length + r.length) r.length = r := by
    conv => rhs; rw [← rw_ring h r]
    exact seg_ext fun i _ => by
      have := pf (h.length + i) (by omega)
      rw [← this]
      congr 1
      omega
  rw [e1, e2] at this
  exact this
theorem seg_rep {f : Nat → Nat} {m p : Nat} (pf : Per f m p) : ∀ k, seg f m (k * p) = (List.replicate k (seg f m p)).flatten
  | 0 => by simp [seg]
  | k + 1 => by
    rw [List.replicate_succ', List.flatten_append, ← seg_rep pf k, List.flatten_cons, List.flatten_nil, List.append_nil, Nat.succ_mul, ← seg_app]
    congr 1
    exact seg_ext fun i _ => by
      have := pf.mul k (m + i) (by omega)
      rw [← this]
      congr 1
      rw [Nat.mul_comm p k]
      omega
theorem rw_often {h r : List Nat} {k : Nat} (r0 : 0 < r.length) (hk : 0 < k) : rw h (List.replicate k r).flatten = rw h r := by
  have pf := rw_per h r
  have := per_rw (pf.mul k) (Nat.mul_pos r0 hk)
  rw [rw_head, Nat.mul_comm, seg_rep pf, rw_ring] at this
  exact this
theorem rw_turn {h r : List Nat} {c : Nat} : rw (h ++ [c]) (r ++ [c]) = rw h (c :: r) := by
  have pf := rw_per h (c :: r)
  have e0 := rw_ring h (c :: r)
  rw [List.length_cons] at pf e0
  have fa : rw h (c :: r) h.length = c := by
    rw [rw_ge (Nat.le_refl _), Nat.sub_self, Nat.zero_mod]
    rfl
  have := per_rw (pf.mono (show h.length ≤ h.length + 1 by omega)) (show 0 < r.length + 1 by omega)
  have s1 : seg (rw h (c :: r)) h.length 1 = [c] := by simp [seg, fa]
  have e1 : seg (rw h (c :: r)) 0 (h.length + 1) = h ++ [c] := by
    rw [← seg_app, rw_head, Nat.zero_add, s1]
  have e2 : seg (rw h (c :: r)) (h.length + 1) (r.length + 1) = r ++ [c] := by
    rw [← seg_app]
    congr 1
    · have h1 : seg (rw h (c :: r)) h.length 1 ++ seg (rw h (c :: r)) (h.length + 1) r.length = seg (rw h (c :: r)) h.length (1 + r.length) := seg_app
      rw [Nat.add_comm 1 r.length, e0, s1] at h1
      simpa using h1
    · have := pf h.length (Nat.le_refl _)
      rw [fa] at this
      simp [seg]
      rw [show h.length + 1 + r.length = h.length + (r.length + 1) by omega]
      exact this
  rw [e1, e2] at this
  exact this
theorem cut_mid {l : List Nat} {a b : Nat} (h : a ≤ b) (h2 : b ≤ l.length) : cutS (S l) (some (a : Int)) (some (b : Int)) = S ((l.drop a).take (b - a)) := by
  rw [cut_S, sIx_le h2, sIx_le (show a ≤ l.length by omega)]
/-- rows agree if so many letters do -/
theorem rows_check {h r h' r' : List Nat} {n : Nat} (r0 : 0 < r.length) (r0' : 0 < r'.length) (hn : h.length + r.length + r'.length ≤ n) (hn2 : h'.length + r.length + r'.length ≤ n) :
    seg (rw h r) 0 n = seg (rw h' r') 0 n ↔ rw h r = rw h' r' := by
  constructor
  · intro e
    refine fine_wilf ((rw_per h r).mono (Nat.le_max_left h.length h'.length)) ((rw_per h' r').mono (Nat.le_max_right _ _)) r0 r0' fun i hi => ?_
    have := seg_inj e i (by omega)
    simpa using this
  · intro e
    rw [e]
theorem cut_dl (l : List Nat) : cutS (S l) none (some (-1)) = S l.dropLast := by
  by_cases h : 0 < l.length
  · obtain ⟨a, c, rfl⟩ := snoc_of h
    rw [cut_last]
    simp
  · have : l = [] := List.eq_nil_of_length_eq_zero (by omega)
    subst this
    rw [cut_S]
    rfl
theorem r_revS {te : TE} {σ : L2.St} {H : Hp} {Q : VK} (h : te σ H fun x H1 => rRev x H1 Q) : tRevS te σ H Q := h
theorem r_revT {l : List Nat} {H : Hp} {Q : VK} (hl : l.length ≤ 1000000) (q : Q (.str (S l.reverse)) H) : rRev (.str (S l)) H Q := ⟨_, rfl, by rw [S_len]; exact le_line hl, by rw [S_codes]; exact q⟩
theorem r_catL {H : Hp} {Q : VK} {l b : Addr} {xs zs : List V} (h1 : H l = some (.lst xs)) (h2 : H b = some (.lst zs)) (hz : xs.length + zs.length ≤ 1000000) (q : ∀ p, H p = none → Q (.ref p) (upd H p (.lst (xs ++ zs)))) : rCat (.ref l) (.ref b) H Q := ⟨l, b, xs, zs, rfl, rfl, h1, h2, le_line hz, q⟩
theorem r_notB {a b : Bool} {H : Hp} {Q : VK} (q : Q (.bl (!decide (a = b))) H) : rNotB (.bl a) (.bl b) H Q := ⟨a, b, rfl, rfl, q⟩
theorem r_isB {a b : Bool} {H : Hp} {Q : VK} (q : Q (.bl (decide (a = b))) H) : rIsB (.bl a) (.bl b) H Q := ⟨a, b, rfl, rfl, q⟩
theorem Wd.dl {a : List Nat} (h : Wd a) : Wd a.dropLast := fun c hc => h c (List.dropLast_subset _ hc)
theorem Wd.rev {a : List Nat} (h : Wd a) : Wd a.reverse := fun c hc => h c (List.mem_reverse.mp hc)
section
variable {K : PySem.W.Frag}
/-- [f(x) for x in t], f of a bool -/
theorem lcT_bl {xs : List V} {t : Addr} {g : TG} {te : TE} {vs : List Nat} {σ : L2.St} {H1 : Hp} {D : Addr} {Qd : Hp → Prop} (bs : List Bool) (hb : bs.length = xs.length) (hD : H1 D = none) (hT : SqT K H1 t xs) (hl : xs.length ≤ 1000000)
    (hs : ∀ (i : Nat) (x : V) (b : Bool) (H : Hp), xs[i]? = some x → bs[i]? = some b → Same H1 H → ∀ R : V → Hp → Prop, (∀ H', Same H H' → R (.bl b) H') → g x (wipe σ vs) H fun σ2 H2 => wipe σ2 vs = wipe σ vs ∧ te σ2 H2 R)
    (hd : ∀ H, Same H1 H → H D = some (.lst (bs.map V.bl)) → Qd H) :
    ∃ W : Nat → Nat → Hp → Prop, (∃ m, W 0 m (upd H1 D (.lst []))) ∧ ∀ i m H, W i m H →
      ((Itt K t).stop i H ∧ Qd H) ∨ ((Itt K t).go i H ∧ ∃ Nx : Hp → Prop, (∀ H', Nx H' → ∃ m', m' < m ∧ W (i + 1) m' H') ∧ ∀ x H', (Itt K t).yld i H x H' → g x (wipe σ vs) H' fun σ2 H2 => wipe σ2 vs = wipe σ vs ∧ tYes σ2 H2 fun b H3 =>
        if b = true then te σ2 H3 fun y H4 => ∃ acc, H4 D = some (.lst acc) ∧ acc.length < sizeLine ∧ Nx (upd H4 D (.lst (acc ++ [y]))) else Nx H3) := by
  refine lc_acc (n := xs.length) (fun i H' => Same H1 H') (fun i v => ∃ b, bs[i]? = some b ∧ v = .bl b) hl (same_new hD) (fun i H' acc acc' e _ => Same.mut e hD) (fun i H' hi e => ?_) (fun H' e => ?_) ?_ ?_
  · exact ⟨xs, xs[i], Same.sqt e hT, List.getElem?_eq_getElem hi⟩
  · exact ⟨xs, Same.sqt e hT, Nat.le_refl _⟩
  · rintro i x H H' acc hi e hacc ⟨rfl, f⟩ R hR
    have eb : bs[i]? = some bs[i] := List.getElem?_eq_getElem (by omega)
    exact hs i x _ _ (f _ (Same.sqt e hT)) eb e R fun H4 e4 => hR _ _ (e4 _ _ hacc) ⟨_, eb, rfl⟩ (e.trans e4)
  · intro H acc hl2 hv hacc e
    have : acc = bs.map V.bl := by
      apply List.ext_getElem?
      intro i
      by_cases hi : i < xs.length
      · obtain ⟨b, eb, ev⟩ := hv i acc[i] (List.getElem?_eq_getElem (by omega))
        rw [List.getElem?_eq_getElem (by omega), ev, List.getElem?_map, eb]
        rfl
      · rw [List.getElem?_eq_none (by omega), List.getElem?_eq_none (by simp; omega)]
    rw [this] at hacc
    exact hd _ e hacc
/-- [.. for x in t]: each one true -/
theorem lcT_true {xs : List V} {t : Addr} {g : TG} {te : TE} {vs : List Nat} {σ : L2.St} {H1 : Hp} {D : Addr} {Qd : Hp → Prop} (hD : H1 D = none) (hT : SqT K H1 t xs) (hl : xs.length ≤ 1000000)
    (hs : ∀ (i : Nat) (x : V) (H : Hp), xs[i]? = some x → Same H1 H → ∀ R : V → Hp → Prop, (∀ H', Same H H' → R (.bl true) H') → g x (wipe σ vs) H fun σ2 H2 => wipe σ2 vs = wipe σ vs ∧ te σ2 H2 R)
    (hd : ∀ H, Same H1 H → H D = some (.lst (List.replicate xs.length (.bl true))) → Qd H) :
    ∃ W : Nat → Nat → Hp → Prop, (∃ m, W 0 m (upd H1 D (.lst []))) ∧ ∀ i m H, W i m H →
      ((Itt K t).stop i H ∧ Qd H) ∨ ((Itt K t).go i H ∧ ∃ Nx : Hp → Prop, (∀ H', Nx H' → ∃ m', m' < m ∧ W (i + 1) m' H') ∧ ∀ x H', (Itt K t).yld i H x H' → g x (wipe σ vs) H' fun σ2 H2 => wipe σ2 vs = wipe σ vs ∧ tYes σ2 H2 fun b H3 =>
        if b = true then te σ2 H3 fun y H4 => ∃ acc, H4 D = some (.lst acc) ∧ acc.length < sizeLine ∧ Nx (upd H4 D (.lst (acc ++ [y]))) else Nx H3) := by
  refine lc_acc (n := xs.length) (fun i H' => Same H1 H') (fun _ v => v = .bl true) hl (same_new hD) (fun i H' acc acc' e _ => Same.mut e hD) (fun i H' hi e => ?_) (fun H' e => ?_) ?_ ?_
  · exact ⟨xs, xs[i], Same.sqt e hT, List.getElem?_eq_getElem hi⟩
  · exact ⟨xs, Same.sqt e hT, Nat.le_refl _⟩
  · rintro i x H H' acc hi e hacc ⟨rfl, f⟩ R hR
    exact hs i x _ (f _ (Same.sqt e hT)) e R fun H4 e4 => hR _ _ (e4 _ _ hacc) rfl (e.trans e4)
  · intro H acc hl2 hv hacc e
    rw [all_true hl2 hv] at hacc
    exact hd _ e hacc
end
end Tf

set_option Elab.async false
set_option linter.all false
set_option maxRecDepth 100000
set_option maxHeartbeats 2000000
/-! exceptions that are caught and held, lambdas that are handed on -/
namespace Tf
open PySem PySem.Spec PyProof.Rows L2 LamX

/-! ### a caught exception, held as a value -/
/-- at a: an exception of the class cls, its dict at d -/
def ExcV (cls : Value) (d : Option Addr) (a : Addr) : HO := .ext fun h => ∃ (oe : Obj) (vs : Array Value), h.get? a = some oe ∧ Zc cls d oe ∧ oe.data = .fields vs
theorem excV_ok {P : Program} {w : World} {H : Hp} {h : Heap} {a : Addr} {cls : Value} {d : Option Addr} {oe : Obj} {vs : Array Value} (e : h.get? a = some oe) (z : Zc cls d oe) (f : oe.data = .fields vs) : ObjOk P w H h a (ExcV cls d a) :=
  ⟨⟨oe, vs, e, z, f⟩, ⟨oe, e⟩, fun _ _ ⟨o, v, q, r⟩ k => ⟨o, v, k o q, r⟩⟩
theorem excV_at {P : Program} {w : World} {H : Hp} {h : Heap} {a : Addr} {cls : Value} {d : Option Addr} (hok : HOk P w H h) (e : H a = some (ExcV cls d a)) : ∃ (oe : Obj) (vs : Array Value), h.get? a = some oe ∧ Zc cls d oe ∧ oe.data = .fields vs := by
  have x : ObjOk P w H h a (.ext fun h => ∃ (oe : Obj) (vs : Array Value), h.get? a = some oe ∧ Zc cls d oe ∧ oe.data = .fields vs) := hok a _ e
  exact x.1
section
variable {X : Cx} {pins : List (Addr × Obj)} {σ : L2.St} {H : Hp} {s : Shared}
/-- an exception of ours, new since the entry, is tracked from now on -/
theorem track {a : Addr} {oe : Obj} {vs : Array Value} {cls : Value} {d : Option Addr} (I : Inv X pins σ H s) (ha : s.heap.get? a = some oe) (hz : Zc cls d oe) (hd : oe.data = .fields vs) (na : H a = none) (n0 : X.s_0.heap.get? a = none)
    (nL : a ≠ X.env.locals) (np : ∀ p ∈ X.pn ++ pins, p.1 ≠ a) : Inv X pins σ (upd H a (ExcV cls d a)) s := by
  have n0' : ∀ b o, X.s_0.heap.get? b = some o → b ≠ a := fun b o e z => by
    rw [z, n0] at e
    cases e
  refine ⟨I.ok, I.os, I.bare, ⟨I.base.keep, I.base.slot, fun b o e n hx => by rw [upd_ne (n0' b o e)]; exact I.base.free b o e n hx, I.base.there, fun b xs e => ?_, fun b o u e => ?_, fun b ps e => ?_⟩, I.loc, I.cell, by rw [upd_ne (Ne.symm nL)]; exact I.free, fun x c e => ?_, fun p hp => ?_, fun b u e => ?_, I.len⟩
  · have q := I.base.tups b xs e
    rw [upd_ne (ne_of_none q na)]
    exact q
  · have q := I.base.frzs b o u e
    rw [upd_ne (ne_of_none q na)]
    exact q
  · obtain ⟨m, q⟩ := I.base.tbls b ps e
    exact ⟨m, by rw [upd_ne (ne_of_none q na)]; exact q⟩
  · obtain ⟨v, o, q1, q2⟩ := I.cell x c e
    rw [upd_ne (fun z => by
      rw [z, ha] at q1
      cases q1
      rw [hd] at q2
      cases q2)]
    exact I.freeC x c e
  · obtain ⟨e, n, r⟩ := I.pin p hp
    exact ⟨e, by rw [upd_ne (np p hp)]; exact n, r⟩
  · by_cases hb : b = a
    · subst hb
      rw [upd_same] at e
      cases e
      exact excV_ok ha hz hd
    · rw [upd_ne hb] at e
      exact (I.hok b u e).stay (fun c v _ q => q) (fun c q => by rw [upd_ne (ne_of_none q na)]; exact q) fun c xs q => by rw [upd_ne (ne_of_none q na)]; exact q
end
/-- what 'except x as n' wishes: behind the suite the exception is known as a value -/
def endV (i : Nat) (a : Addr) (cls : Value) (d : Option Addr) (D : Ends) : Ends := { nx := fun σ' H' => D.nx (σ'.set i none) (upd H' a (ExcV cls d a)), rt := fun v H' => D.rt v (upd H' a (ExcV cls d a)), bk := fun σ' H' => D.bk (σ'.set i none) (upd H' a (ExcV cls d a)), ct := fun σ' H' => D.ct (σ'.set i none) (upd H' a (ExcV cls d a)) }
def wAsV (K : PySem.W.Frag) (c : Value) (i : Nat) (ts : Addr → Value → Option Addr → TS) (Wout : WX) (D : Ends) : WX := fun cls d σ H =>
  ∃ b, PySem.W.exmOne K cls c = some b ∧ (b = true → ∀ a, H a = none → ts a cls d (endV i a cls d D) (σ.set i (some (.ref a))) H) ∧ (b = false → Wout cls d σ H)
section
variable {X : Cx} {pins : List (Addr × Obj)} {σ σ' : L2.St} {H H' : Hp} {sI s : Shared} {B h : Heap} {a : Addr} {cls : Value} {d : Option Addr}
/-- an exception that landed is none of the frames, none of what was there at the entry, none of the pins -/
theorem landed_new (hs : X.stack = X.env :: X.outer) (hf : X.env.frame = some X.env.locals) (hex : X.ex = []) (J : Inv X pins σ H sI) (nb : ∀ b o, sI.heap.get? b = some o → b ∉ frs X.stack → B.get? b = some o)
    (fl : HandSPX.FlyingZ B (X.env :: X.outer) a (Zc cls d) h) : a ≠ X.env.locals ∧ a ∉ X.fs ∧ X.s_0.heap.get? a = none ∧ ∀ p ∈ X.pn ++ pins, p.1 ≠ a := by
  obtain ⟨oe, vs, he, _, hd⟩ := fl.there
  have out : a ∉ frs X.stack := by
    rw [hs]
    intro hm
    obtain ⟨_, o, e, hnf⟩ := fl.2.2.1.mem hm
    exact hnf vs (by rw [← hd]; exact congrArg Obj.data (Option.some.inj (e.symm.trans he)))
  have inF : ∀ e ∈ X.env :: X.outer, e.frame ≠ some a := fun e he z => out (by rw [hs]; exact List.mem_filterMap.mpr ⟨e, he, z⟩)
  have gone : ∀ o, sI.heap.get? a ≠ some o := fun o e => by
    have z := (nb a o e out).symm.trans fl.2.1
    cases z
  refine ⟨fun z => inF X.env List.mem_cons_self (by rw [hf, z]), fun hm => ?_, ?_, fun p hp z => gone p.2 (z ▸ (J.pin p hp).1)⟩
  · obtain ⟨e, he, z⟩ := List.mem_filterMap.mp hm
    exact inF e (List.mem_cons_of_mem _ he) z
  · cases e : X.s_0.heap.get? a with
    | none => rfl
    | some o =>
      obtain ⟨o', z⟩ := J.base.there a o e (by simp [hex])
      exact absurd z (gone o')
/-- fewer pins -/
theorem Inv.drop {p : Addr × Obj} (I : Inv X (p :: pins) σ H s) : Inv X pins σ H s := ⟨I.ok, I.os, I.bare, I.base, I.loc, I.cell, I.free, I.freeC, fun r hr => I.pin r ((List.mem_append.mp hr).elim (List.mem_append_left _) fun z => List.mem_append_right _ (List.mem_cons_of_mem _ z)), I.hok, I.len⟩
/-- behind the suite the pin is still told -/
theorem Inv.behind {p : Addr × Obj} (ok : X.Ok) (I : Inv (X.suite a (p :: (X.pn ++ pins))) [] σ H s) : Inv X (p :: pins) σ H s := ⟨ok, I.os, I.bare, I.base, I.loc, I.cell, I.free, I.freeC, fun r hr => I.pin r (List.mem_append_left _ (by
  rcases List.mem_append.mp hr with z | z
  · exact List.mem_cons_of_mem _ (List.mem_append_left _ z)
  · rcases List.mem_cons.mp z with z | z
    · rw [z]
      exact List.mem_cons_self
    · exact List.mem_cons_of_mem _ (List.mem_append_right _ z))), I.hok, I.len⟩
variable {x n : Str} {c : Value} {i : Nat} {body suite : List Stmt} {b₀ : Stmt} {np pos pos' : Pos} {tb : WX → TS} {ts : Addr → Value → Option Addr → TS} {Wout : WX}
/-- the name of the clause goes, the exception is known as a value -/
theorem behind_as {oe : Obj} {vs : Array Value} {A : Around} {E : Value → Shared → Prop} {Q : Unit → Shared → Prop} (ok : X.Ok) (hN : X.N.Nodup) (hi : X.N[i]? = some n) (hln : X.env.kindOf n = some .local) (hz : Zc cls d oe) (hd : oe.data = .fields vs) (n0 : X.s_0.heap.get? a = none)
    (nL : a ≠ X.env.locals) (np : ∀ p ∈ X.pn ++ pins, p.1 ≠ a) (I : Inv (X.suite a ((a, oe) :: (X.pn ++ pins))) [] σ H s) (q : ∀ s', Inv X pins (σ.set i none) (upd H a (ExcV cls d a)) s' → Q () s') :
    wpAny (model X.prog X.w) A (do bindName X.env n .none; unbindBehindTheSuite X.env n pos') Q E s := by
  refine gone_ok (Inv.behind ok I) hN hi hln fun s' J => q s' ?_
  obtain ⟨e, na, _⟩ := J.pin (a, oe) (List.mem_append_right _ List.mem_cons_self)
  exact track (Inv.drop J) e hz hd na n0 nL np
/-- try: body / except x as n: suite, the exception held behind it -/
theorem ps_try_asV (hs : X.stack = X.env :: X.outer) (hf : X.env.frame = some X.env.locals) (hex : X.ex = []) (hN : X.N.Nodup) (hi : X.N[i]? = some n) (hln : X.env.kindOf n = some .local) (hg : Gl X x) (hm : X.mg x = some c) (hdb : (x == ("__debug__" : Str)) = false) (tk : Takes X Wout)
    (hb : ∀ (W : WX) (pn : List (Addr × Obj)) (xe : Value → Shared → Prop), Takes (X.tr pn xe) W → PSs (X.tr pn xe) body (tb W))
    (hsu : ∀ (a : Addr) (oe : Obj) (cls : Value) (d : Option Addr) (pn : List (Addr × Obj)), PSs (X.suite a ((a, oe) :: pn)) (b₀ :: suite) (ts a cls d)) :
    PS X (.Try body [.ExceptHandler (some (.Name x np)) (some n) (b₀ :: suite) pos'] [] [] pos) (fun D σ H => tb (wAsV X.K c i ts Wout D) D σ H) := by
  constructor
  intro pins s σ H D I h
  have ok := I.ok
  refine wpAny_Try_except (wpAny_mono ((hb (wAsV X.K c i ts Wout D) (X.pn ++ pins) _ fun u s' air => ?fall).run [] s σ H D (I.toTry _) h) (fun f s1 z => ?over) (fun e s1 z => z))
  case over =>
    cases f with
    | next =>
      obtain ⟨σ', H', J, z⟩ := z
      exact wpAny_execs_nil ⟨σ', H', J.ofTry ok, z⟩
    | ret u =>
      obtain ⟨v, σ', H', J, z⟩ := z
      exact ⟨v, σ', H', J.ofTry ok, z⟩
    | brk | cont =>
      obtain ⟨σ', H', J, z⟩ := z
      exact ⟨σ', H', J.ofTry ok, z⟩
  case fall =>
    obtain ⟨a, B, sI, _, σ', H', cls, d, rfl, J, nb, up, sky, na, os, ag, b, eb, yes, no⟩ := air
    replace J : Inv X pins σ' H' sI := J.ofTry ok
    refine Sky.land (env := X.env) (outer := X.outer) Zc.steady (by rw [ok.frames, hs]) hf (by rw [← hs]; exact sky) fun h3 fl up' => ?_
    obtain ⟨nL, nF, n0, np⟩ := landed_new hs hf hex J nb fl
    obtain ⟨oe, vs, he, hz, hd⟩ := fl.there
    have J3 : Inv X pins σ' H' { s' with heap := h3 } := J.landed nb fl.1 (up.trans up') os ag
    refine wpAny_handleBy_cons (codeAny_handlers_test ?_) (fun z => nomatch z)
    have type : PySem.W.Looks (model X.prog X.w) h3 (typeOf (.ref a)) cls := fun _ _ _ _ k z => wpAny_typeOf_ref (k _ _ he) (by rw [hz.1]; exact z)
    refine ld_glob (X := X.suite a ((a, oe) :: (X.pn ++ pins))) (J3.suite he hd na nL nF) hg hm ((PySem.W.exm_one (M := model X.prog X.w) J3.kIn type eb).here ?_) hdb
    cases b with
    | false =>
      refine wpAny_handleBy_nil ?_
      obtain ⟨_, _, _, o2, v2, T, _, _, g1, _, g2, g3, _⟩ := id fl
      unfold PySem.passOn
      refine wpAny_bind (wpAny_field g1 g2 g3 ?_)
      have on : wpAny (model X.prog X.w) X.A (setFlight (.ref a) X.env.frame) (fun _ s4 => wpAny (model X.prog X.w) X.A (throw (.ref a) : Sem Flow) (SP X pins D) X.xe s4) X.xe { s' with heap := h3 } := by
        rw [hf]
        exact HandSPX.setFlight_upZ fl fun h4 held up4 => wpAny_throw (tk _ _ ⟨a, B, sI, pins, σ', H', cls, d, rfl, J, nb, (up.trans up').trans up4, .inr (.inr (by rw [hs]; exact held)), na, os, ag, no rfl⟩)
      rw [if_neg (by simp)]
      first | exact wpAny_bind (wpAny_pure (wpAny_bind on)) | exact wpAny_bind on
    | true =>
      refine codeAny_handlers_suite_as (HandSPX.lands_againZ fl fun h4 fl4 up4 => ?_)
      obtain ⟨oe, vs, he, hz, hd⟩ := fl4.there
      have J4 : Inv X pins σ' H' { s' with heap := h4 } := J.landed nb fl4.1 ((up.trans up').trans up4) os ag
      refine store_ok (X := X.suite a ((a, oe) :: (X.pn ++ pins))) (v := .ref a) (J4.suite he hd na nL nF) hN hi (.inl hln) rfl (fun s5 S5 => ?_) (.inr hln)
      refine wpAny_mono ((hsu a oe cls d (X.pn ++ pins)).run [] s5 _ H' _ S5 (yes rfl a na)) (fun f s6 z => ?_) (fun _ _ z => z.elim)
      cases f with
      | ret u =>
        obtain ⟨v, σ6, H6, S6, r, z⟩ := z
        exact behind_as ok hN hi hln hz hd n0 nL np S6 fun s7 J7 => ⟨v, _, _, J7, r, z⟩
      | next | brk | cont =>
        obtain ⟨σ6, H6, S6, z⟩ := z
        exact behind_as ok hN hi hln hz hd n0 nL np S6 fun s7 J7 => ⟨_, _, J7, z⟩
end

/-! ### what the written part says of an exception class of the program -/
structure ECls (K : PySem.W.Frag) (C fI : Addr) : Prop where
  o : OexC K C
  f : XfC K C
  i : ExcC K C
  no : PySem.W.findIn K (.ref C) "value" = some none
  ini : PySem.W.findIn K (.ref C) "__init__" = some (some (.ref fI))
  tI : PySem.W.typeIn K (.ref fI) = some (.type "function")
def oexB (K : PySem.W.Frag) (C : Addr) : Bool := match K.lookup C with
  | some ⟨.type "type", _, .cls cd, sl⟩ => (match cd.mro, sl.toList with
    | .ref C' :: bm, [_, _, _, _, some (.builtin n), _] => C' == C && (n == "ValueError.__new__" && (!cd.hasDel && (cd.hasDict && PySem.HandSPX.refsVE bm)))
    | _, _ => false)
  | _ => false
theorem oexB_ok {K : PySem.W.Frag} {C : Addr} (q : oexB K C = true) : ∃ nm q N bs bm sn sub ab col dd k0 k1 k2 k3 k5, K.lookup C = some (excClassObj nm q C N bs bm true sn sub ab col dd k0 k1 k2 k3 k5 "ValueError.__new__") ∧ PySem.HandSPX.refsVE bm = true := by
  unfold oexB at q
  split at q
  · rename_i dd cd sl ho
    split at q
    · rename_i C' bm k0 k1 k2 k3 n k5 hm hs
      simp only [Bool.and_eq_true, beq_iff_eq, Bool.not_eq_true'] at q
      obtain ⟨rfl, rfl, hdel, hdic, ht⟩ := q
      obtain ⟨nm, bs, mro, ns, qn, hd, sn, sub, ab, col, del⟩ := cd
      dsimp only at hm hdel hdic
      subst hm hdel hdic
      have hsl : sl = #[k0, k1, k2, k3, some (.builtin "ValueError.__new__"), k5] := by
        obtain ⟨l⟩ := sl
        simp only at hs
        rw [hs]
      subst hsl
      exact ⟨nm, qn, ns, bs, bm, sn, sub, ab, col, dd, k0, k1, k2, k3, k5, ho, ht⟩
    · cases q
  · cases q
def eclsL (K : PySem.W.Frag) (C fI : Addr) : List Bool := [oexB K C, He.eqO (PySem.W.findIn K (.ref C) "__setattr__") (some (some (.builtin "object.__setattr__"))), decide (PySem.W.subIn K (.ref C) (.type "BaseException") = some true), decide (PySem.W.typeIn K (.ref C) = some (.type "type")), PySem.W.keepIn K (.ref C), xfB K C,
  He.eqO (PySem.W.findIn K (.ref C) "__class__") (some (some (.builtin "object.__class__"))), He.eqO (PySem.W.specialIn K (.builtin "object.__class__") "__get__") (some (some (.builtin "getset_descriptor.__get__"))), decide (PySem.W.takesIn K (.builtin "object.__class__") = some true),
  decide (PySem.W.mroIn K C (.type "object") = some true), He.eqO (PySem.W.findIn K (.ref C) "value") (some none), He.eqO (PySem.W.findIn K (.ref C) "__init__") (some (some (.ref fI))), decide (PySem.W.typeIn K (.ref fI) = some (.type "function"))]
def eclsB (K : PySem.W.Frag) (C fI : Addr) : Bool := (eclsL K C fI).all id
theorem ecls_ok {K : PySem.W.Frag} {C fI : Addr} (h : eclsB K C fI = true) : ECls K C fI := by
  unfold eclsB eclsL at h
  simp only [List.all_cons, List.all_nil, Bool.and_true, Bool.and_eq_true, id] at h
  obtain ⟨h1, h2, h3, h4, h5, h6, h7, h8, h9, h10, h11, h12, h13⟩ := h
  have x := xfB_ok h6
  exact ⟨⟨oexB_ok h1, He.eqO_ok h2, of_decide_eq_true h3, of_decide_eq_true h4, h5⟩, x, ⟨x.ga, x.gg, x.exC, x.hdC, He.eqO_ok h7, He.eqO_ok h8, of_decide_eq_true h9, of_decide_eq_true h10⟩, He.eqO_ok h11, He.eqO_ok h12, of_decide_eq_true h13⟩

/-! ### e.value of a held exception -/
def tXv (K : PySem.W.Frag) (n : Str) (te : TE) : TE := fun σ H Q => te σ H fun x H1 => ∃ (a C dd : Addr) (fs : List (Str × V)) (v : V), x = .ref a ∧ H1 a = some (ExcV (.ref C) (some dd) a) ∧ H1 dd = some (.xd fs) ∧ XfC K C ∧ PySem.W.findIn K (.ref C) n = some none ∧ fs.lookup n = some v ∧ Q v H1
theorem excV_inst {X : Cx} {pins : List (Addr × Obj)} {σ : L2.St} {H : Hp} {s : Shared} {a C dd : Addr} {fs : List (Str × V)} (I : Inv X pins σ H s) (ea : H a = some (ExcV (.ref C) (some dd) a)) (ed : H dd = some (.xd fs)) :
    ∃ (oe od : Obj) (mA : Str → Option Value), PySem.W.InstAt s.heap a oe C (some od) ∧ (∀ f, RelO (fs.lookup f) (mA f)) ∧ ∀ f, PySem.W.lookIn f od = some (mA f) := by
  obtain ⟨oe, vs, he, hz, hd⟩ := excV_at I.hok ea
  have hx : ObjOk X.prog X.w H s.heap dd (.xd fs) := I.hok dd _ ed
  obtain ⟨mA, hns, hr⟩ := hx
  obtain ⟨od, ho, hl⟩ := lookIn_ns hns
  exact ⟨oe, od, mA, ⟨he, hz.1, by unfold PySem.W.notCls; rw [hd] <;> rfl, by rw [hz.2]; exact ho⟩, hr, hl⟩
theorem pe_xv {X : Cx} {e : Expr} {te : TE} {pos : Pos} {n : Str} (he : PE X e te) (hb : attributeBase e n X.env (eval e X.env) = eval e X.env := by rfl) : PE X (.Attribute e n pos) (tXv X.K n te) := by
  refine ⟨fun pins s σ H Q I h => ?_⟩
  refine attr_of hb (thn (he.run pins s σ H _ I h) fun u s1 hh => ?_)
  obtain ⟨x, H1, I1, rx, a, C, dd, fs, v, ex, ea, ed, T, hno, l, q⟩ := hh
  subst ex
  obtain rfl : u = Value.ref a := rx
  obtain ⟨oe, od, mA, J, hr, hl⟩ := excV_inst I1 ea ed
  obtain ⟨u, hu, ru⟩ := RelO.some_of (v := v) (o := mA n) (by rw [← l]; exact hr n)
  exact HandSPX.exc_get I1.kIn J T.ga T.gg T.exC (PySem.W.findObj_own T.hdC hno rfl (by rw [hl, hu])) (handed_of ru) ⟨v, H1, I1.tok _, ru, q⟩

/-! ### isinstance(e, C), e None or a held exception -/
def rIsX (K : PySem.W.Frag) : List V → Hp → VK → Prop := fun xs H Q => rIsi K xs H Q ∨ ∃ (a C dd D : Addr) (fs : List (Str × V)) (b : Bool), xs = [.ref a, .ref D] ∧ H a = some (ExcV (.ref C) (some dd) a) ∧ H dd = some (.xd fs) ∧ ExcC K C ∧ PySem.W.kitOne K (.ref C) (.ref D) = some b ∧ Q (.bl b) H
theorem call_isX {X : Cx} : CallR X (.builtin "isinstance") (rIsX X.K) := by
  intro pins s σ H xs us Q I r h
  rcases h with h | ⟨a, C, dd, D, fs, b, rfl, ea, ed, T, e, q⟩
  · exact call_isi pins s σ H xs us Q I r h
  · obtain ⟨u1, u2, rfl, r1, r2⟩ := vals2 r
    cases (show u1 = Value.ref a from r1)
    cases (show u2 = Value.ref D from r2)
    obtain ⟨oe, od, mA, J, _, _⟩ := excV_inst I ea ed
    have hcl : (PySem.W.clsIn X.K C).isSome = true := by
      obtain ⟨cd, hc, _⟩ := PySem.W.any_some T.hd
      rw [hc] <;> rfl
    exact PySem.W.kia_one (PySem.W.kitx_exc hcl T.hg T.hk T.hs T.ha T.hn T.ht T.hm) I.kIn J e (fun z => nomatch z) fun tk => ⟨.bl b, H, I.kept (t' := tk) fun _ _ z => z, rfl, q⟩
section
variable {K : PySem.W.Frag} {H : Hp} {Q : VK}
theorem r_isXn {D : Addr} (hk : PySem.W.kitOne K (.type "NoneType") (.ref D) = some false) (q : Q (.bl false) H) : rIsX K [.non, .ref D] H Q := .inl ⟨.non, .ref D, .type "NoneType", .ref D, false, rfl, .own D, .base .non, hk, q⟩
theorem r_isXe {a C dd D : Addr} {fs : List (Str × V)} {b : Bool} (ea : H a = some (ExcV (.ref C) (some dd) a)) (ed : H dd = some (.xd fs)) (T : ExcC K C) (hk : PySem.W.kitOne K (.ref C) (.ref D) = some b) (q : Q (.bl b) H) : rIsX K [.ref a, .ref D] H Q := .inr ⟨a, C, dd, D, fs, b, rfl, ea, ed, T, hk, q⟩
end

/-! ### raise C(e), the value kept -/
def spInit (K : PySem.W.Frag) : Sp := fun vs H Q _ => ∃ (a C : Addr) (v : V), vs = [.ref a, v] ∧ H a = some (exo a C none) ∧ OexC K C ∧ PySem.W.findIn K (.ref C) "value" = some none ∧ ∀ dx, H dx = none → dx ≠ a → Q .non (upd (upd H dx (exd dx [("value", v)])) a (exo a C (some dx)))
def ErrI (P : Program) (w : World) (K : PySem.W.Frag) (mg : Str → Option Value) (base : Heap) (fI : Addr) : Prop := ∃ fd, FnOk P w K mg base CX0 1 fI fd ["self", "value"] (spInit K) ∧ Binds K fd ["self", "value"] []
def errK (K : PySem.W.Frag) (C : Addr) (W : WX) (σ : L2.St) : List V → Hp → Prop := fun vs H1 => vs.length ≤ 1000 ∧ ∀ a, H1 a = none → spInit K (.ref a :: (vs ++ [])) (upd H1 a (exo a C none))
  (fun v H2 => v = .non ∧ ∃ (d : Addr) (fs : List (Str × V)), H2 a = some (exo a C (some d)) ∧ H2 d = some (exd d fs) ∧ H1 d = none ∧ W (.ref C) (some d) σ (upd (del H2 a) d (.xd fs))) (fun _ _ _ => False)
def tRz (K : PySem.W.Frag) (C : Addr) (W : WX) (ta : TA) : TS := fun _ σ H => ta σ H (errK K C W σ)
theorem ps_err {X : Cx} {x : Str} {C fI : Addr} {W : WX} {e : Expr} {te : TE} {j : Nat} {p pos pos2 : Pos} (T : ECls X.K C fI) (F : ErrI X.prog X.w X.K X.mg X.base fI) (hm : X.mg x = some (.ref C)) (hr : Room j X.A) (hc : X.calm = true) (tk : Takes X W) (hg : Gl X x) (he : PE X e te) (hj : 2 ≤ j := by decide)
    (hdb : (x == ("__debug__" : Str)) = false := by decide) (hs : starEach [e] X.env = (false, eval e X.env) :: starEach [] X.env := by rfl) : PS X (.Raise (some (.Call (.Name x p) [e] [] pos)) none pos2) (tRz X.K C W (tCons te tNil)) := by
  obtain ⟨fd, F1, b⟩ := F
  exact ps_raise hc tk (pmk_oex T.o T.ini T.tI F1 (hr.mono hj) b .nil pass0 hg hm (pa_cons he pa_nil hs) hdb hs (by rfl))
section
variable {K : PySem.W.Frag} {H : Hp} {σ : L2.St} {D : Ends} {W : WX} {C fI : Addr} {ta : TA}
theorem r_rz (h : ta σ H (errK K C W σ)) : tRz K C W ta D σ H := h
theorem err_of {v : V} (T : ECls K C fI) (h : ∀ d, H d = none → W (.ref C) (some d) σ (upd H d (.xd [("value", v)]))) : errK K C W σ [v] H := by
  refine ⟨by show 1 ≤ 1000; decide, fun a ha => ⟨a, C, v, rfl, upd_same, T.o, T.no, fun dx hd hne => ⟨rfl, dx, [("value", v)], upd_same, by rw [upd_ne hne, upd_same], ?_, ?_⟩⟩⟩
  · rw [← hd, upd_ne hne]
  · have hd' : H dx = none := by rw [← hd, upd_ne hne]
    have e : upd (del (upd (upd (upd H a (exo a C none)) dx (exd dx [("value", v)])) a (exo a C (some dx))) a) dx (.xd [("value", v)]) = upd H dx (.xd [("value", v)]) := by
      funext b
      by_cases h1 : b = dx
      · rw [h1, upd_same, upd_same]
      · rw [upd_ne h1, upd_ne h1]
        by_cases h2 : b = a
        · rw [h2, del_same, ha]
        · rw [del_ne h2, upd_ne h2, upd_ne h1, upd_ne h2]
    rw [e]
    exact h dx hd'
end

/-! ### a thing to be called without arguments, handed on -/
/-- f, known in the state s of the frames st: called later it reads as tl -/
structure Thk (P : Program) (w : World) (K : PySem.W.Frag) (mg : Str → Option Value) (base : Heap) (st : List Env) (s : Shared) (H : Hp) (k : Nat) (q : Str) (f c' : Addr) (tl : XK → Hp → VK → Prop) : Prop where
  obj : ∀ (s1 : Shared) (H1 : Hp), Un (frs st) [] H H1 s.heap s1.heap → PySem.W.FnAt f s1.heap
  run : ∀ (A : Around) (outer : List Env) (s1 : Shared) (H1 : Hp) (Q : VK) (E : XK), Room (k + 1) A → Env0 P w K mg base A outer s1 H1 → Un (frs st) [] H H1 s.heap s1.heap → H1 c' = some (CodeO c' q) → tl E H1 Q →
    codeAny (model P w) A (.call (.ref f) ⟨[], []⟩) (CR (L2.CX P w) outer P w H1 s1 Q E) s1
section
variable {X : Cx} {pins : List (Addr × Obj)} {σ : L2.St} {H : Hp} {s : Shared}
/-- a lambda just made is such a thing -/
theorem thk_of {f c' : Addr} {pm ctv : Value} {params : Arguments} {body : Expr} {scope : Scope} {k : Nat} {t : XK → TE} (I : Inv X pins σ H s) (L : LamS X.env.scope scope)
    (hf : s.heap.get? f = some (PySem.W.kla_obj "<lambda>" (X.env.qual ++ "<lambda>") params body scope (cloFrom X.env.cells scope.names []) pm c' ctv)) (hfn : H f = none) (hfr : f ∉ frs X.stack)
    (hbind : ∀ (q : Str) (cl : List (Str × Addr)) (pm cv ctv : Value), bindArgs (PySem.W.kla_fn "<lambda>" q params body scope cl pm cv ctv) ⟨[], []⟩ = pure [])
    (hbody : ∀ (A : Around) (outer : List Env) (s : Shared) (H : Hp) (E : XK), Room k (A.deeper (lamEnv X scope s.heap.objs.size f c')) → PE (lamCx X A outer s H E scope f c') body (t E)) :
    Thk X.prog X.w X.K X.mg X.base X.stack s H k (X.env.qual ++ "<lambda>") f c' (fun E H' Q' => t E σ H' Q') := by
  have look : ∀ (s1 : Shared) (H1 : Hp), Un (frs X.stack) [] H H1 s.heap s1.heap → s1.heap.get? f = some (PySem.W.kla_obj "<lambda>" (X.env.qual ++ "<lambda>") params body scope (cloFrom X.env.cells scope.names []) pm c' ctv) :=
    fun s1 H1 un => un.keep f _ hf hfn hfr (by simp)
  refine ⟨fun s1 H1 un => ⟨_, _, _, _, look s1 H1 un⟩, fun A outer s1 H1 Q E hr e0 un hc ht => ?_⟩
  obtain ⟨⟨oc, vs, tk, g1, g2, g3⟩, _⟩ := e0.hok c' _ hc
  refine PySem.W.kla_callFunE hr.depth (look s1 H1 un) rfl L.co L.gen rfl ⟨c', oc, vs, tk, rfl, g1, g2, g3⟩ ?_
  rw [hbind]
  refine wpAny_pure (wpAny_newFunctionEnv (fun y hy => (L.own y hy).2) (fun y hy => absurd hy (by simp)) (fun h₁ hns hsb => ⟨(e0.mod.nolimit.keeps fun b o e => (e0.bs b o e).1).fresh _ hsb, ?_⟩) L.kind)
  have kp : ∀ b o, s1.heap.get? b = some o → h₁.get? b = some o := fun b o e => hsb.extBut b o (Nat.ne_of_lt (Heap.lt_size e)) (Heap.get?_push_of_some _ e)
  have J := lam_start2 (E := E) (f := f) (c' := c') (tk := s1.toks + ([] : List (Str × Value)).length) I L e0 hr.hd un hns kp
  refine PySem.W.kla_codeExpr (wpAny_mono ((hbody A outer s1 H1 E (hr.deeper _)).run [] _ _ H1 Q J ht) (fun v s' hq => ?_) fun e s' hq => hq)
  obtain ⟨w', H', J', rv, q⟩ := hq
  exact ⟨w', H', J'.os, J'.bare, J'.base, J'.hok, rv, q⟩
/-- what changed since the entry, seen from the callers -/
theorem un_from (hex : X.ex = []) (I : Inv X pins σ H s) {H1 : Hp} {h1 : Heap} (un : Un (frs X.stack) [] H H1 s.heap h1) : Un X.fs [] X.H_0 H1 X.s_0.heap h1 := by
  have B : Un X.fs [] X.H_0 H X.s_0.heap s.heap := by
    have z := I.base
    rw [hex] at z
    exact z
  have nst : ∀ b o, X.s_0.heap.get? b = some o → b ∉ X.fs → b ∉ frs X.stack := fun b o e hb hm => by
    rcases List.mem_cons.mp (I.stkSub b hm) with z | z
    · have h1 := Heap.lt_size e
      have h2 := I.ok.above
      rw [z] at h1
      exact absurd (Nat.lt_of_lt_of_le h1 h2) (Nat.lt_irrefl _)
    · exact hb z
  refine ⟨fun b o e n hb hx => ?_, fun b o e n hb hx => ?_, fun b o e n hx => ?_, fun b o e hx => ?_, fun b xs e => un.tups b xs (B.tups b xs e), fun b o u e => un.frzs b o u (B.frzs b o u e), fun b ps e => ?_⟩
  · exact un.keep b o (B.keep b o e n hb hx) (B.free b o e n hx) (nst b o e hb) hx
  · obtain ⟨sl, z⟩ := B.slot b o e n hb hx
    obtain ⟨sl', z'⟩ := un.any z (B.free b o e n hx) hx
    exact ⟨sl', z'⟩
  · obtain ⟨o', z⟩ := B.there b o e hx
    exact un.free b o' z (B.free b o e n hx) hx
  · obtain ⟨o', z⟩ := B.there b o e hx
    exact un.there b o' z hx
  · obtain ⟨m1, z⟩ := B.tbls b ps e
    obtain ⟨m2, z'⟩ := un.tbls b _ z
    exact ⟨m1 ++ m2, by rw [z', Array.append_assoc]⟩
variable {k : Nat} {q : Str} {f c' : Addr} {tl : XK → Hp → VK → Prop}
/-- one frame further in -/
theorem Thk.on (T : Thk X.prog X.w X.K X.mg X.base X.outer X.s_0 X.H_0 k q f c' tl) (hex : X.ex = []) (I : Inv X pins σ H s) : Thk X.prog X.w X.K X.mg X.base X.stack s H k q f c' tl :=
  ⟨fun s1 H1 un => T.obj s1 H1 (un_from hex I un), fun A outer s1 H1 Q E hr e0 un => T.run A outer s1 H1 Q E hr e0 (un_from hex I un)⟩
def tThk (i : Nat) (f c' : Addr) (q : Str) (tl : XK → Hp → VK → Prop) (E : L2.St → XK) : TE := fun σ H Q => σ[i]? = some (some (.ref f)) ∧ H c' = some (CodeO c' q) ∧ tl (E σ) H Q
/-- a() -/
theorem pe_thk {i j : Nat} {a : Str} {E : L2.St → XK} {p1 p2 : Pos} (T : Thk X.prog X.w X.K X.mg X.base X.outer X.s_0 X.H_0 k q f c' tl) (hex : X.ex = []) (hr : Room j X.A) (hx : ∀ σ, PassesAt (L2.CX X.prog X.w) X σ (E σ)) (hN : X.N[i]? = some a) (hv : Vis X.env.scope a) (hj : k + 1 ≤ j)
    (hd : (a == ("__debug__" : Str)) = false := by decide) (hcd : (a == ("__classdict__" : Str)) = false := by decide) : PE X (.Call (.Name a p1) [] [] p2) (tThk i f c' q tl E) := by
  refine ⟨fun pins s σ H Q I h => ?_⟩
  obtain ⟨hs, hc, ht⟩ := h
  refine wpAny_Call_Name_kw (thn ((pe_var (pos := p1) (i := i) hN hv hd hcd).run pins s σ H (fun v H1 => v = .ref f ∧ H1 = H) I ⟨.ref f, hs, rfl, rfl⟩) fun u s1 ⟨v, H1, I1, r1, ev, eH⟩ => ?_)
  subst ev eH
  obtain rfl : u = Value.ref f := r1
  have T1 := T.on hex I1
  refine PySem.W.callWith_F0 (T1.obj s1 H1 Un.refl) (wpAny_call (codeAny_mono (T1.run X.A X.stack s1 H1 Q (E σ) (hr.mono hj) I1.env0 Un.refl hc ht) fun r s' hq => ?_))
  cases r with
  | error e => exact hx σ pins H1 s1 e s' I1 hq
  | ok fl => cases fl with
    | ret u => exact I1.after hq
    | _ => exact False.elim hq
end
/-- a def that gets such a thing first -/
abbrev SpT := (XK → Hp → VK → Prop) → Addr → Addr → Str → Sp
structure OkT (P : Program) (w : World) (K : PySem.W.Frag) (mg : Str → Option Value) (base : Heap) (CX : CXT) (gd : Around → Prop) (k kt : Nat) (x : Str) (st : Stmt) (ps : List Str) (sp : SpT) : Prop where
  ex : ∃ f fd, mg x = some (.ref f) ∧ FnP K x st f fd ∧ Binds K fd ps [] ∧
    ∀ (A : Around) (outer : List Env) (s : Shared) (H : Hp) (args : Args) (us : List Value) (vs : List V) (Q : VK) (E : XK) (q : Str) (g c' : Addr) (tl : XK → Hp → VK → Prop), gd A → Room k A → Env0 P w K mg base A outer s H → Thk P w K mg base outer s H kt q g c' tl →
      BindsTo s fd args (ps.zip us) → Vals vs us → vs.length = ps.length → sp tl g c' q vs H Q E → codeAny (model P w) A (.call (.ref f) args) (CR CX outer P w H s Q E) s
theorem okT_of {P : Program} {w : World} {K : PySem.W.Frag} {mg : Str → Option Value} {base : Heap} {CX : CXT} {gd : Around → Prop} {k kt : Nat} {x : Str} {st : Stmt} {N ps : List Str} {sp : SpT} {f : Addr} {fd : FuncData} (g : mg x = some (.ref f)) (D : FnP K x st f fd) (b : Binds K fd ps []) (S : FnScope N ps (defScope st))
    (hbody : ∀ (cdv : Value) (A : Around) (outer : List Env) (s : Shared) (H : Hp) (vs : List V) (Q : VK) (E : XK) (q : Str) (g c' : Addr) (tl : XK → Hp → VK → Prop), gd A → Thk P w K mg base outer s H kt q g c' tl → Room k (A.deeper (envOfC x (defScope st) s.heap.objs.size f cdv)) → sp tl g c' q vs H Q E →
      ∃ t, PSs (cxOf CX P w K mg base N x (defScope st) f cdv A outer s H E) (defBody st) t ∧ t { nx := fun _ H' => Q .non H', rt := Q } (start N vs) H) : OkT P w K mg base CX gd (k + 1) kt x st ps sp := by
  refine ⟨f, fd, g, D, b, fun A outer s H args us vs Q E q gf c' tl hgd hr e0 T hb r hl h => ?_⟩
  obtain ⟨oc, od, dV, kV, doc, pm, an, cdv, ct, osl, rfl, lk, hcd, _, _⟩ := D.ex
  exact run_ofS lk hcd S hr e0 hb r hl fun hr' => hbody cdv A outer s H vs Q E q gf c' tl hgd T hr' h
section
variable {X : Cx} {CX : CXT} {gd : Around → Prop} {k kt j : Nat} {x : Str} {st : Stmt} {ps : List Str} {sp : SpT} {E : XK} {q : Str} {g c' : Addr} {tl : XK → Hp → VK → Prop} {e : Expr} {es : List Expr} {t : TA} {p pos : Pos}
/-- x(a, ..), a such a thing that this def got itself -/
theorem pe_clT (F : OkT X.prog X.w X.K X.mg X.base CX gd k kt x st ps sp) (hgd : gd X.A) (T : Thk X.prog X.w X.K X.mg X.base X.outer X.s_0 X.H_0 kt q g c' tl) (hex : X.ex = []) (hr : Room j X.A) (hg : Gl X x) (hx : Passes CX X E) (ha : PA X (e :: es) t) (hlen : ∀ vs H Q E, sp tl g c' q vs H Q E → vs.length = ps.length) (hj : k ≤ j := by decide)
    (hdb : (x == ("__debug__" : Str)) = false := by decide) (he : starEach (e :: es) X.env = (false, eval e X.env) :: starEach es X.env := by rfl) (hpl : (backTo pos (starEach es X.env)).any (·.1) = false := by rfl) :
    PE X (.Call (.Name x p) (e :: es) [] pos) (tCall (sp tl g c' q) [] E t) := by
  obtain ⟨f, fd, gg, D, b, F⟩ := F.ex
  refine ⟨fun pins s σ H Q I h => ?_⟩
  refine wpAny_Call_Name_kw (ld_glob I hg gg ?_ hdb)
  refine PySem.W.callWith_K (h₀ := X.base) I.ok.mod.kin D.kp (thn (ha.run pos pins s σ H _ I h) fun us s1 ⟨vs, H1, I1, r, h1⟩ => ⟨I1.kIn, ?_⟩) he hpl
  have h1 : sp tl g c' q (vs ++ []) H1 Q E := h1
  rw [List.append_nil] at h1
  have hl := hlen _ _ _ _ h1
  have hb := b s1 us I1.kIn (by rw [List.append_nil, ← r.length]; exact hl)
  rw [List.append_nil] at hb
  refine wpAny_call (codeAny_mono (F X.A X.stack s1 H1 ⟨us, []⟩ us vs Q E q g c' tl hgd (hr.mono hj) I1.env0 (T.on hex I1) hb r hl h1) fun r s' hq => ?_)
  cases r with
  | error e => exact hx pins σ H1 s1 e s' I1 hq
  | ok fl => cases fl with
    | ret u => exact I1.after hq
    | _ => exact False.elim hq
/-- x(lambda: body, ..) -/
def tLamT (T : List (Addr × Str)) (q : Str) (sp : SpT) (tl : XK → TE) (E : XK) (ta : TA) : TE := fun σ H Q => Tabs T H ∧ ∀ (f c' : Addr) (H1 : Hp), ExtN H H1 → Tabs T H1 → H1 c' = some (CodeO c' q) →
  ta σ H1 fun vs H2 => H2 c' = some (CodeO c' q) ∧ sp (fun E H' Q' => tl E σ H' Q') f c' q (.ref f :: vs) H2 Q E
theorem pe_lamT {T : List (Addr × Str)} {c Pt : Addr} {params : Arguments} {body : Expr} {scope : Scope} {tb : XK → TE} {lpos : Pos} (F : OkT X.prog X.w X.K X.mg X.base CX gd k kt x st ps sp) (hgd : gd X.A) (hs : X.stack = X.env :: X.outer) (hfr : X.env.frame = some X.env.locals) (TB : TabB X.base X.mg c Pt) (hcode : X.env.code = .ref c)
    (hmT : (Pt, X.env.qual ++ "<lambda>") ∈ T) (hu : ∀ p ∈ T, p.1 = Pt → p.2 = X.env.qual ++ "<lambda>") (hr : Room j X.A) (hg : Gl X x) (hx : Passes CX X E) (L : LamS X.env.scope scope) (hdef : defaultsOf params X.env = ([], []))
    (hbind : ∀ (q : Str) (cl : List (Str × Addr)) (pm cv ctv : Value), bindArgs (PySem.W.kla_fn "<lambda>" q params body scope cl pm cv ctv) ⟨[], []⟩ = pure [])
    (hbody : ∀ (A : Around) (outer : List Env) (s : Shared) (H : Hp) (E : XK) (f c' : Addr), Room kt (A.deeper (lamEnv X scope s.heap.objs.size f c')) → PE (lamCx X A outer s H E scope f c') body (tb E))
    (ha : PA X es t) (hlen : ∀ tl g c' q vs H Q E, sp tl g c' q vs H Q E → vs.length = ps.length) (hj : k ≤ j := by decide)
    (hdb : (x == ("__debug__" : Str)) = false := by decide) (he : starEach (.Lambda params body scope lpos :: es) X.env = (false, eval (.Lambda params body scope lpos) X.env) :: starEach es X.env := by rfl) (hpl : (backTo pos (starEach es X.env)).any (·.1) = false := by rfl) :
    PE X (.Call (.Name x p) (.Lambda params body scope lpos :: es) [] pos) (tLamT T (X.env.qual ++ "<lambda>") sp tb E t) := by
  obtain ⟨f, fd, gg, D, b, F⟩ := F.ex
  refine ⟨fun pins s σ H Q I h => ?_⟩
  obtain ⟨hT, h⟩ := h
  refine wpAny_Call_Name_kw (ld_glob I hg gg ?_ hdb)
  refine PySem.W.callWith_K (h₀ := X.base) I.ok.mod.kin D.kp ?_ he hpl
  rw [he]
  show wpAny _ _ (spliced ((false, eval (.Lambda params body scope lpos) X.env) :: backTo pos (starEach es X.env))) _ _ s
  refine Calls.spliced_cons (lam_make2 I TB hcode hmT hu hT hdef (L.has I.ok) fun lf c' pm' ctv H1 s' I1 eN T1 hf hfn hfs hco => ?_)
  have nL : lf ≠ X.env.locals := fun z => hfs (List.mem_filterMap.mpr ⟨X.env, by rw [hs]; exact List.mem_cons_self, by rw [hfr, z]⟩)
  have nF : lf ∉ X.fs := fun hm => by
    obtain ⟨e, he, z⟩ := List.mem_filterMap.mp hm
    exact hfs (List.mem_filterMap.mpr ⟨e, by rw [hs]; exact List.mem_cons_of_mem _ he, z⟩)
  have I1' : Inv X ((lf, PySem.W.kla_obj "<lambda>" (X.env.qual ++ "<lambda>") params body scope (cloFrom X.env.cells scope.names []) pm' c' ctv) :: pins) σ H1 s' := ⟨I1.ok, I1.os, I1.bare, I1.base, I1.loc, I1.cell, I1.free, I1.freeC, fun p hp => by
    rcases List.mem_append.mp hp with z | z
    · exact I1.pin p (List.mem_append_left _ z)
    · rcases List.mem_cons.mp z with z | z
      · rw [z]
        exact ⟨hf, hfn, nL, nF, fun v z => nomatch z⟩
      · exact I1.pin p (List.mem_append_right _ z), I1.hok, I1.len⟩
  refine thn (ha.run pos _ s' σ H1 _ I1' (h lf c' H1 eN T1 hco)) fun us s2 ⟨vs, H2, I2, r, hc2, h2⟩ => ⟨I2.kIn, ?_⟩
  obtain ⟨hf2, hfn2, _⟩ := I2.pin _ (List.mem_append_right _ List.mem_cons_self)
  have I2' : Inv X pins σ H2 s2 := ⟨I2.ok, I2.os, I2.bare, I2.base, I2.loc, I2.cell, I2.free, I2.freeC, fun p hp => I2.pin p (by
    rcases List.mem_append.mp hp with z | z
    · exact List.mem_append_left _ z
    · exact List.mem_append_right _ (List.mem_cons_of_mem _ z)), I2.hok, I2.len⟩
  have TH := thk_of (t := tb) I2' L hf2 hfn2 hfs hbind fun A outer s H E hr2 => hbody A outer s H E lf c' hr2
  have hl := hlen _ _ _ _ _ _ _ _ h2
  have r' : Vals (V.ref lf :: vs) (Value.ref lf :: us) := .cons rfl r
  have hb := b s2 (Value.ref lf :: us) I2'.kIn (by rw [List.append_nil, ← r'.length]; exact hl)
  rw [List.append_nil] at hb
  refine wpAny_call (codeAny_mono (F X.A X.stack s2 H2 ⟨Value.ref lf :: us, []⟩ (Value.ref lf :: us) (V.ref lf :: vs) Q E _ lf c' _ hgd (hr.mono hj) I2'.env0 TH hb r' hl h2) fun r s' hq => ?_)
  cases r with
  | error e => exact hx pins σ H2 s2 e s' I2' hq
  | ok fl => cases fl with
    | ret u => exact I2'.after hq
    | _ => exact False.elim hq
end

/-! ### defs that hold lambdas: their code objects, the tables of these -/
/-- the rule for such a def -/
theorem okC {P : Program} {w : World} {K : PySem.W.Frag} {mg : Str → Option Value} {base : Heap} {CX : CXT} {k : Nat} {x : Str} {st : Stmt} {N ps : List Str} {sp : Sp} {fd : FuncData} (D : FnP K x st (He.ga K x) fd) (S : FnScope N ps (defScope st)) (len : ∀ vs H Q E, sp vs H Q E → vs.length = ps.length)
    (hbody : ∀ (cdv : Value) (A : Around) (outer : List Env) (s : Shared) (H : Hp) (vs : List V) (Q : VK) (E : XK), cdv = .ref (He.cT K (x, none)).1 → Room k (A.deeper (envOfC x (defScope st) s.heap.objs.size (He.ga K x) cdv)) → sp vs H Q E →
      ∃ t, PSs (cxOf CX P w K mg base N x (defScope st) (He.ga K x) cdv A outer s H E) (defBody st) t ∧ t { nx := fun _ H' => Q .non H', rt := Q } (start N vs) H) : FnOk P w K mg base CX (k + 1) (He.ga K x) fd ps sp := by
  obtain ⟨oc, od, dV, kV, doc, pm, an, cdv, ct, osl, rfl, lk, hcd, _, _⟩ := D.ex
  obtain ⟨c, rfl⟩ := He.codeIn_ref hcd
  have ec : He.codeOf K (x, none) = c := He.codeOf_eq (p := (x, none)) lk rfl
  exact fn_of lk hcd S len fun A outer s H vs Q E hr hsp => hbody (.ref c) A outer s H vs Q E (by rw [← ec] <;> rfl) hr hsp
/-- the tables of these defs, the lambda's qualified name -/
def tabs (K : PySem.W.Frag) (tf : List He.Defn) : List (Addr × Str) := tf.map fun p => ((He.cT K p).2, (p.1 ++ ".<locals>.") ++ "<lambda>")
theorem tabs_mem {K : PySem.W.Frag} {tf : List He.Defn} {p : He.Defn} (h : p ∈ tf) : ((He.cT K p).2, (p.1 ++ ".<locals>.") ++ "<lambda>") ∈ tabs K tf := List.mem_map.mpr ⟨p, h, rfl⟩
/-- no two of them share a table -/
def apartB (K : PySem.W.Frag) (tf : List He.Defn) : Bool := tf.all fun p => tf.all fun q => !decide ((He.cT K q).2 = (He.cT K p).2) || decide (q.1 = p.1)
theorem apart_ok {K : PySem.W.Frag} {tf : List He.Defn} (h : apartB K tf = true) {p : He.Defn} (hp : p ∈ tf) : ∀ r ∈ tabs K tf, r.1 = (He.cT K p).2 → r.2 = (p.1 ++ ".<locals>.") ++ "<lambda>" := fun r hr e => by
  obtain ⟨q, hq, rfl⟩ := List.mem_map.mp hr
  have z := List.all_eq_true.mp (List.all_eq_true.mp h p hp) q hq
  have e : (He.cT K q).2 = (He.cT K p).2 := e
  rw [decide_eq_true e] at z
  have z2 : q.1 = p.1 := of_decide_eq_true (by simpa using z)
  show (q.1 ++ ".<locals>.") ++ "<lambda>" = _
  rw [z2]
/-- what the defs of tf know of the heap at the bottom -/
def TBs (K : PySem.W.Frag) (mg : Str → Option Value) (base : Heap) (tf : List He.Defn) : Prop := ∀ p ∈ tf, TabB base mg (He.cT K p).1 (He.cT K p).2
theorem lawAt_of {l : PySem.W.OpenLaw} {w : World} {K : PySem.W.Frag} {CX : CXT} {k n : Nat} {x : Str} {mg : Str → Option Value} {fa : Addr} {h : Heap} {fl : List He.Fa} {fn : List He.DefD} {tf : List He.Defn} {ex : PySem.W.Frag → Bool} {fd : FuncData} {sp : Sp} (KX : K.In h) (c : He.SaysX fl fn [] tf ex w h K)
    (hb : ∀ (s : Shared) (u : Value), BindsTo s fd ⟨[u], []⟩ [(x, u)])
    (hsp : ∀ (H : Hp) (a : Addr) (ns : List Int), ns.length ≤ n → Tabs (tabs K tf) H → SqL K H a (ns.map V.int) → sp [.ref a] H (fun v _ => v = .bl true) fun _ _ _ => False)
    (F : ∀ base : Heap, K.In base → base.Ns mainGlobals mg → TBs K mg base tf → FnOk l.prog w K mg base CX k fa fd [x] sp) : LawAtS l w K CX k n x mg fa h := by
  have fw : ∀ {φ : Addr × Addr → Prop}, (∀ p ∈ tf, φ (He.cT K p)) → ∀ q ∈ tf.map (He.cT K), φ q := fun h q hq => by
    obtain ⟨p, hp, rfl⟩ := List.mem_map.mp hq
    exact h p hp
  refine ⟨fd, tf.map (He.cT K), sp, fw c.empty, fw c.out, fw fun p hp => PySem.W.codeHd_of_K KX (c.hd p hp), hb, fun H a ns hl _ hH hS => hsp H a ns hl (fun r hr => ?_) hS, fun base hK hN hT => F base hK hN fun p hp => hT _ (List.mem_map.mpr ⟨p, hp, rfl⟩)⟩
  obtain ⟨p, hp, rfl⟩ := List.mem_map.mp hr
  exact TabS.nil (hH _ (List.mem_map.mpr ⟨p, hp, rfl⟩))

/-! ### short words -/
def clsMeth (st : Stmt) (j : Nat) : Stmt := match st with
  | .ClassDef (body := b) .. => b.getD j (.Pass ⟨0, 0, 0, 0⟩)
  | _ => .Pass ⟨0, 0, 0, 0⟩
theorem TBs.at {K : PySem.W.Frag} {mg : Str → Option Value} {base : Heap} {tf : List He.Defn} (t : TBs K mg base tf) {p : He.Defn} (h : p ∈ tf) : TabB base mg (He.cT K p).1 (He.cT K p).2 := t p h
section
variable {K : PySem.W.Frag} {H H1 H2 : Hp} {Q : VK} {σ : L2.St} {D : Ends} {te : TE} {ta : TA}
theorem r_xv {n : Str} (h : te σ H fun x H1 => ∃ (a C dd : Addr) (fs : List (Str × V)) (v : V), x = .ref a ∧ H1 a = some (ExcV (.ref C) (some dd) a) ∧ H1 dd = some (.xd fs) ∧ XfC K C ∧ PySem.W.findIn K (.ref C) n = some none ∧ fs.lookup n = some v ∧ Q v H1) : tXv K n te σ H Q := h
theorem r_lamT {T : List (Addr × Str)} {q : Str} {sp : SpT} {tl : XK → TE} {E : XK} (hT : Tabs T H) (h : ∀ (f c' : Addr) (H1 : Hp), ExtN H H1 → Tabs T H1 → H1 c' = some (CodeO c' q) → ta σ H1 fun vs H2 => H2 c' = some (CodeO c' q) ∧ sp (fun E H' Q' => tl E σ H' Q') f c' q (.ref f :: vs) H2 Q E) : tLamT T q sp tl E ta σ H Q := ⟨hT, h⟩
theorem r_thk {i : Nat} {f c' : Addr} {q : Str} {tl : XK → Hp → VK → Prop} {E : L2.St → XK} (h1 : σ[i]? = some (some (.ref f))) (h2 : H c' = some (CodeO c' q)) (h : tl (E σ) H Q) : tThk i f c' q tl E σ H Q := ⟨h1, h2, h⟩
theorem r_asV {tb : WX → TS} {c : Value} {i : Nat} {ts : Addr → Value → Option Addr → TS} {Wout : WX} (h : tb (wAsV K c i ts Wout D) D σ H) : (fun D σ H => tb (wAsV K c i ts Wout D) D σ H) D σ H := h
/-- all but the tables stays: lists, tuples -/
theorem extN_sqt {a : Addr} {xs : List V} (e : ExtN H H1) (h : SqT K H a xs) : SqT K H1 a xs := by
  rcases h with h | h
  · rcases h with h | ⟨o, h⟩
    · exact .inl (.inl (e _ _ h fun ps z => nomatch z))
    · exact .inl (.inr ⟨o, e _ _ h fun ps z => nomatch z⟩)
  · exact .inr h
theorem extN_sql {a : Addr} {xs : List V} (e : ExtN H H1) (h : SqL K H a xs) : SqL K H1 a xs := by
  rcases h with h | h
  · rcases h with h | ⟨o, h⟩
    · exact .inl (.inl (e _ _ h fun ps z => nomatch z))
    · exact .inl (.inr ⟨o, e _ _ h fun ps z => nomatch z⟩)
  · exact .inr h
/-- all but the tables and one object -/
def ButT (a : Addr) (H H' : Hp) : Prop := ∀ b o, b ≠ a → H b = some o → (∀ ps, o ≠ .tbl ps) → H' b = some o
variable {a : Addr}
theorem ButT.refl : ButT a H H := fun _ _ _ h _ => h
theorem ButT.trans (x : ButT a H H1) (y : ButT a H1 H2) : ButT a H H2 := fun b o n h t => y b o n (x b o n h t) t
theorem ButT.ofB (x : But a H H1) : ButT a H H1 := fun b o n h _ => x b o n h
theorem ButT.ofN (x : ExtN H H1) : ButT a H H1 := fun b o _ h t => x b o h t
theorem ButT.of (x : Same H H1) : ButT a H H1 := fun b o _ h _ => x b o h
theorem tabs_but {T : List (Addr × Str)} (t : Tabs T H) (x : But a H H1) (h : ∀ ps, H a ≠ some (.tbl ps)) (h2 : ∀ c q, H a ≠ some (CodeO c q)) : Tabs T H1 := fun p hp => by
  obtain ⟨ps, h1, h3, h4⟩ := t p hp
  refine ⟨ps, x _ _ (fun z => h ps (z ▸ h1)) h1, h3, fun pos cv hc => ?_⟩
  obtain ⟨c, e1, e2⟩ := h4 pos cv hc
  exact ⟨c, e1, x _ _ (fun z => h2 c p.2 (z ▸ e2)) e2⟩
theorem codeO_lst {c : Addr} {q : Str} {xs : List V} : CodeO c q ≠ .lst xs := fun z => by
  unfold CodeO at z
  cases z
theorem tabs_pot {T : List (Addr × Str)} {c : Int} (t : Tabs T H) (P : PotAt H a c) (x : But a H H1) : Tabs T H1 := by
  obtain ⟨o, sd, n, e, _⟩ := P
  exact tabs_but t x (fun ps z => by rw [e] at z; cases z) fun c q z => by rw [e] at z; exact codeO_lst (Option.some.inj z).symm
theorem PotAt.extN {c : Int} (P : PotAt H a c) (x : ExtN H H1) : PotAt H1 a c := by
  obtain ⟨o, sd, n, e, r⟩ := P
  exact ⟨o, sd, n, x _ _ e (fun ps z => nomatch z), r⟩
theorem tabs_same {T : List (Addr × Str)} (t : Tabs T H) (e : Same H H1) : Tabs T H1 := t.ext e
theorem extN_same (e : Same H H1) : ExtN H H1 := fun b o h _ => e b o h
end
theorem inV_two {x a b : List Nat} : inV (.str (S x)) [.str (S a), .str (S b)] = (decide (x = a) || decide (x = b)) := by
  show ((S a == S x) || ((S b == S x) || false)) = _
  rw [S_beq, S_beq, Bool.or_false, decide_eq_decide.mpr (eq_comm (a := a)), decide_eq_decide.mpr (eq_comm (a := b))]
theorem r_in2 {K : PySem.W.Frag} {H : Hp} {Q : VK} {p : Addr} {x a b : List Nat} (hs : SqT K H p [.str (S a), .str (S b)]) (q : Q (.bl (decide (x = a) || decide (x = b))) H) : rIn K false (.str (S x)) (.ref p) H Q :=
  ⟨p, _, rfl, .inr hs, rfl, rfl, by rw [inV_two]; exact q⟩
theorem r_endV {i : Nat} {a : Addr} {cls : Value} {d : Option Addr} {D : Ends} {σ : L2.St} {H : Hp} (h : D.nx (σ.set i none) (upd H a (ExcV cls d a))) : (endV i a cls d D).nx σ H := h
theorem ExtN.mut {H H1 : Hp} {p : Addr} {o : HO} (e : ExtN H H1) (h : H p = none) : ExtN H (upd H1 p o) := fun b u q n => by
  rw [upd_ne (ne_of_none q h)]
  exact e b u q n
theorem tabs_mut {T : List (Addr × Str)} {H : Hp} {D : Addr} {xs : List V} {o : HO} (t : Tabs T H) (h : H D = some (.lst xs)) : Tabs T (upd H D o) :=
  tabs_but t (a := D) (fun b u n q => by rw [upd_ne n]; exact q) (fun ps z => by rw [h] at z; cases z) fun c q z => by rw [h] at z; exact codeO_lst (Option.some.inj z).symm
theorem tabs_new {T : List (Addr × Str)} {H : Hp} {p : Addr} {o : HO} (t : Tabs T H) (h : H p = none) : Tabs T (upd H p o) := t.ext (same_new h)
theorem wd_rep {n c : Nat} (h : c = 110 ∨ c = 102 ∨ c = 115) : Wd (List.replicate n c) := fun x hx => by rw [(List.mem_replicate.mp hx).2]; exact h
theorem wd_seg {h r : List Nat} {a n : Nat} (r0 : 0 < r.length) (wh : Wd h) (wr : Wd r) : Wd (seg (rw h r) a n) := fun c hc => by
  obtain ⟨j, _, rfl⟩ := List.mem_map.mp hc
  by_cases e : a + j < h.length
  · rw [rw_lt e, List.getD_eq_getElem?_getD, List.getElem?_eq_getElem e]
    exact wh _ (List.getElem_mem e)
  · rw [rw_ge (by omega)]
    have e2 : (a + j - h.length) % r.length < r.length := Nat.mod_lt _ r0
    rw [List.getD_eq_getElem?_getD, List.getElem?_eq_getElem e2]
    exact wr _ (List.getElem_mem e2)
theorem all_at {l : List Bool} (h : l.all id = true) (i : Nat) {b : Bool} (e : l[i]? = some b) : b = true := List.all_eq_true.mp h b (List.mem_of_getElem? e)
end Tf

set_option Elab.async false
set_option linter.all false
set_option maxRecDepth 100000
set_option maxHeartbeats 2000000
/-! defs that are called where nothing is being shown: repr of data -/
namespace Tf
open PySem PySem.Spec PyProof.Rows L2 LamX

/-! ### the bottom of a law -/
/-- what the law's def may lean on where it is called -/
structure Bottom (P : Program) (w : World) (K : PySem.W.Frag) (mg : Str → Option Value) (cs : List (Addr × Addr)) (a : Addr) (ns : List Int) (s : Shared) (base : Heap) (H : Hp) : Prop where
  env : Env0 P w K mg base callerA [] s H
  tabs : ∀ p ∈ cs, TabB base mg p.1 p.2
  emp : ∀ p ∈ cs, H p.2 = some (.tbl #[])
  scr : SqL K H a (ns.map V.int)
section
variable {P : Program} {w : World} {K : PySem.W.Frag} {mg mb : Str → Option Value} {cs : List (Addr × Addr)} {a fa : Addr} {vs : List Value} {ns : List Int} {s : Shared}
theorem bottomed (KX : K.In s.heap) (hG : s.heap.Ns mainGlobals mg) (hB : s.heap.Ns builtinsNs mb) (hbb : ∀ x : Str, x ≠ "__name__" → mb x = bootBuiltins x) (hlim : s.heap.NoLimit) (hg : s.gens = #[])
    (hT : ∀ p ∈ cs, s.heap.get? p.2 = some { cls := .none, data := .fields #[] }) (nT : ∀ p ∈ cs, K.lookup p.2 = none) (hC : ∀ p ∈ cs, PySem.W.CodeHd s.heap p.1 p.2)
    (hM : ∃ (bm : Addr) (ob : Obj), mg "__builtins__" = some (.ref bm) ∧ bm ≠ builtinsNs ∧ s.heap.get? bm = some ob ∧ ob.cls = .type "module" ∧ ob.dict = some builtinsNs ∧ ob.data = .plain)
    (ha : s.heap.get? a = some { cls := .type "list", data := .seq vs.toArray }) (hi : IntsAre vs ns) (hl : ns.length ≤ sizeLine)
    (F : ∀ base H, Bottom P w K mg cs a ns s base H → codeAny (model P w) callerA (.call (.ref fa) ⟨[.ref a], []⟩) (CR CX0 [] P w H s (fun v _ => v = .bl true) E0) s) :
    codeAny (model P w) callerA (.call (.ref fa) ⟨[.ref a], []⟩) (fun r s' => r = .ok (.ret (.bool true)) ∧ OldK s.heap s'.heap ∧ s'.os = s.os ∧ AllBare s'.gens) s := by
  have rv := vals_ints hi
  have atT : ∀ b ∈ cs.map (·.2), s.heap.get? b = some { cls := .none, data := .fields #[] } := fun b hb => by
    obtain ⟨p, hp, rfl⟩ := List.mem_map.mp hb
    exact hT p hp
  have inT : ∀ p ∈ cs, p.2 ∈ cs.map (·.2) := fun p hp => List.mem_map.mpr ⟨p, hp, rfl⟩
  have aT : a ∉ cs.map (·.2) := fun z => by
    have e := ha.symm.trans (atT a z)
    simp at e
  -- the script is tracked, or it stands in the written part
  have go : ∀ tr : Bool, (tr = true → K.lookup a = none) → (tr = false → SqL K (fun b => if b ∈ cs.map (·.2) then some (.tbl #[]) else none) a (ns.map V.int)) →
      codeAny (model P w) callerA (.call (.ref fa) ⟨[.ref a], []⟩) (fun r s' => r = .ok (.ret (.bool true)) ∧ OldK s.heap s'.heap ∧ s'.os = s.os ∧ AllBare s'.gens) s := by
    intro tr htr hns
    obtain ⟨H, eH⟩ : ∃ H : Hp, H = fun b => if tr = true ∧ b = a then some (.frz { cls := .type "list", data := .seq vs.toArray } (.lst (ns.map V.int))) else if b ∈ cs.map (·.2) then some (.tbl #[]) else none := ⟨_, rfl⟩
    have H1 : tr = true → H a = some (.frz { cls := .type "list", data := .seq vs.toArray } (.lst (ns.map V.int))) := fun e => by rw [eH]; exact if_pos ⟨e, rfl⟩
    have H2 : ∀ b ∈ cs.map (·.2), H b = some (.tbl #[]) := fun b hb => by
      rw [eH]
      show (if tr = true ∧ b = a then _ else _) = _
      rw [if_neg (show ¬ (tr = true ∧ b = a) from fun z => aT (by rw [← z.2]; exact hb)), if_pos hb]
    have H3 : ∀ b, b ∉ cs.map (·.2) → ¬ (tr = true ∧ b = a) → H b = none := fun b h1 h2 => by
      rw [eH]
      show (if tr = true ∧ b = a then _ else _) = _
      rw [if_neg h2, if_neg h1]
    clear eH
    -- whatever is neither a list nor empty fields is not tracked
    have un : ∀ {b : Addr} {o : Obj}, s.heap.get? b = some o → (∀ xs n, o.data ≠ .seq xs n) → o.data ≠ .fields #[] → H b = none := fun {b o} e h1 h2 => by
      refine H3 b (fun z => ?_) fun z => ?_
      · rw [atT b z] at e
        cases e
        exact h2 rfl
      · rw [z.2, ha] at e
        cases e
        exact h1 _ _ rfl
    have low : ∀ {b : Addr} {o : Obj}, s.heap.get? b = some o → (∀ xs n, o.data ≠ .seq xs n) → o.data ≠ .fields #[] → (hidT s.heap H).get? b = some o := fun e h1 h2 => hidT_get e (un e h1 h2)
    have nsL : ∀ {b : Addr} {m : Str → Option Value}, s.heap.Ns b m → (hidT s.heap H).Ns b m := fun {b m} ⟨o, es, ep, e, d, r⟩ => ⟨o, es, ep, low e (fun xs n z => by rw [d] at z; cases z) (fun z => by rw [d] at z; cases z), d, r⟩
    have kIn : K.In (hidT s.heap H) := fun b o e => hidT_get (KX b o e) (H3 b (fun z => by
      obtain ⟨p, hp, rfl⟩ := List.mem_map.mp z
      rw [nT p hp] at e
      cases e) fun z => by
      rw [z.2, htr z.1] at e
      cases e)
    have hok : HOk P w H s.heap := fun b u e => by
      by_cases h1 : tr = true ∧ b = a
      · obtain ⟨t, rfl⟩ := h1
        rw [H1 t] at e
        cases e
        exact ⟨ha, by rw [List.length_map]; exact hl, vs, _, rv, ha⟩
      · by_cases h2 : b ∈ cs.map (·.2)
        · rw [H2 b h2] at e
          cases e
          exact atT b h2
        · rw [H3 b h2 h1] at e
          cases e
    have tb : ∀ p ∈ cs, TabB (hidT s.heap H) mg p.1 p.2 := fun p hp => by
      refine ⟨?_, ?_, fun z => ?_⟩
      · obtain ⟨o, us, file, tf, flags, tg, inF, text, tt, e, c1, c2, c3, r⟩ := hC p hp
        refine ⟨o, us, file, tf, flags, tg, inF, text, tt, low e (fun xs n z => by rw [c2] at z; cases z) (fun z => ?_), c1, c2, c3, r⟩
        rw [c2] at z
        cases z
        simp at c3
      · obtain ⟨bm, ob, m1, m2, m3, m4, m5, m6⟩ := hM
        refine ⟨bm, ob, m1, m2, fun z => ?_, fun z => ?_, low m3 (fun xs n z => by rw [m6] at z; cases z) (fun z => by rw [m6] at z; cases z), m4, m5, m6⟩
        · obtain ⟨o, es, ep, e, d, _⟩ := hG
          rw [z, e] at m3
          cases m3
          rw [d] at m6
          cases m6
        · rw [z, hT p hp] at m3
          cases m3
          cases m6
      · obtain ⟨o, es, ep, e, d, _⟩ := hG
        rw [z, hT p hp] at e
        cases e
        cases d
    have e0 : Env0 P w K mg (hidT s.heap H) callerA [] s H := ⟨rfl, ⟨kIn, nsL hG, ⟨mb, nsL hB, hbb⟩, hlim.imp fun m h => ⟨nsL h.1, h.2⟩⟩, fun b o e => of_hidT e, Nat.le_of_eq (hidT_size _ _), trivial, fun b hb => absurd (show b ∈ ([] : List Addr) from hb) (by simp), hok, .of_eq hg⟩
    have scr : SqL K H a (ns.map V.int) := by
      cases tr with
      | true => exact .inl (.inr ⟨_, H1 rfl⟩)
      | false =>
        rcases hns rfl with (z | ⟨o, z⟩) | z
        · cases (if_neg aT).symm.trans z
        · cases (if_neg aT).symm.trans z
        · exact .inr z
    refine codeAny_mono (F _ H ⟨e0, tb, fun p hp => H2 _ (inT p hp), scr⟩) fun r s' h => ?_
    cases r with
    | error e => exact False.elim h
    | ok fl => cases fl with
      | ret u =>
        obtain ⟨v, H', os, bare, un', hok', r', q⟩ := h
        have q : v = .bl true := q
        subst q
        obtain rfl : u = Value.bool true := r'
        have more : ∀ p ∈ cs, ∃ m : Array Value, s'.heap.get? p.2 = some { cls := .none, data := .fields m } := fun p hp => by
          obtain ⟨m, z⟩ := un'.tbls p.2 #[] (H2 _ (inT p hp))
          exact ⟨_, hok' p.2 _ z⟩
        have same : ∀ b o, b ∉ cs.map (·.2) → s.heap.get? b = some o → s'.heap.get? b = some o := fun b o nb e => by
          by_cases h1 : tr = true ∧ b = a
          · obtain ⟨t, rfl⟩ := h1
            obtain ⟨z, _⟩ := hok' b _ (un'.frzs b _ _ (H1 t))
            rw [ha] at e
            cases e
            exact z
          · exact un'.keep b o e (H3 b nb h1) (fun z => absurd (show b ∈ ([] : List Addr) from z) (by simp)) (by simp)
        refine ⟨rfl, ⟨fun b o e => ?_, fun b o e => ?_⟩, os, bare⟩
        · by_cases hb : b ∈ cs.map (·.2)
          · obtain ⟨p, hp, rfl⟩ := List.mem_map.mp hb
            obtain ⟨m, hm⟩ := more p hp
            rw [hT p hp] at e
            cases e
            exact .inr (.inl ⟨((hC p hp).tab (hT p hp)).isCodeTable, rfl, #[], m, rfl, by rw [Array.empty_append]; exact hm⟩)
          · exact .inl (same b o hb e)
        · by_cases hb : b ∈ cs.map (·.2)
          · obtain ⟨p, hp, rfl⟩ := List.mem_map.mp hb
            obtain ⟨m, hm⟩ := more p hp
            exact ⟨_, hm⟩
          · exact ⟨o, same b o hb e⟩
      | _ => exact False.elim h
  cases hk : K.lookup a with
  | none => exact go true (fun _ => hk) fun z => nomatch z
  | some o =>
    have e := KX a o hk
    rw [ha] at e
    cases e
    exact go false (fun z => nomatch z) fun _ => .inr ⟨_, vs.toArray, _, hk, rfl, rfl, rfl, by rw [List.size_toArray, hi.length]; exact hl, by simpa using rv⟩
end

/-! ### data -/
def keyD : Key → PyData
  | .inl i => .int i
  | .inr x => .str x
def okPts (z : Str) : Prop := ∀ c ∈ z.cps.toList, c < 16 ^ 8
def KeyOk : Key → Prop
  | .inl i => i.natAbs.log2 < 1920
  | .inr x => okPts x
mutual
/-- x is the data d -/
def Dat (K : PySem.W.Frag) (z0 : Addr) (H : Hp) : PyData → V → Prop
  | .none, x => x = .non
  | .bool b, x => x = .bl b
  | .int i, x => x = .int i ∧ i.natAbs.log2 < 1920
  | .str z, x => x = .str z ∧ okPts z
  | .list ds, x => ∃ a xs, x = .ref a ∧ a ≠ z0 ∧ SqL K H a xs ∧ DatL K z0 H ds xs
  | .tuple ds, x => ∃ a xs, x = .ref a ∧ SqT K H a xs ∧ DatL K z0 H ds xs
  | .dict kvs, x => ∃ a ps, x = .ref a ∧ H a = some (.dK ps) ∧ DatK K z0 H kvs ps
def DatL (K : PySem.W.Frag) (z0 : Addr) (H : Hp) : List PyData → List V → Prop
  | [], xs => xs = []
  | d :: ds, xs => ∃ x r, xs = x :: r ∧ Dat K z0 H d x ∧ DatL K z0 H ds r
def DatK (K : PySem.W.Frag) (z0 : Addr) (H : Hp) : List (PyData × PyData) → List (Key × V) → Prop
  | [], ps => ps = []
  | (k, d) :: kvs, ps => ∃ kk x r, ps = (kk, x) :: r ∧ k = keyD kk ∧ KeyOk kk ∧ Dat K z0 H d x ∧ DatK K z0 H kvs r
end
mutual
def noList : PyData → Bool
  | .none | .bool _ | .int _ | .str _ => true
  | .list _ => false
  | .tuple ds => noListL ds
  | .dict kvs => noListK kvs
def noListL : List PyData → Bool
  | [] => true
  | d :: ds => noList d && noListL ds
def noListK : List (PyData × PyData) → Bool
  | [] => true
  | (k, d) :: r => noList k && (noList d && noListK r)
end
mutual
/-- how long its text is at most -/
def cap : PyData → Nat
  | .none | .bool _ => 5
  | .int _ => 1921
  | .str z => 10 * z.length + 2
  | .list ds => capL ds + 2
  | .tuple ds => capL ds + 3
  | .dict kvs => capK kvs + 2
def capL : List PyData → Nat
  | [] => 0
  | d :: ds => cap d + 2 + capL ds
def capK : List (PyData × PyData) → Nat
  | [] => 0
  | (k, d) :: r => cap k + cap d + 4 + capK r
end
section
variable {X : Cx} {pins : List (Addr × Obj)} {σ : L2.St} {H : Hp} {s : Shared} {z0 : Addr}
mutual
theorem dat_reads (I : Inv X pins σ H s) : ∀ (d : PyData) {x : V} {u : Value}, Dat X.K z0 H d x → RelV x u → ∃ as, Reads s.heap u d as ∧ (noList d = true → sysModules ∉ as)
  | .none, x, u, h, r => by
    unfold Dat at h
    subst h
    cases r
    exact ⟨[], .none, fun _ z => nomatch z⟩
  | .bool b, x, u, h, r => by
    unfold Dat at h
    subst h
    cases r
    exact ⟨[], .bool b, fun _ z => nomatch z⟩
  | .int i, x, u, h, r => by
    unfold Dat at h
    obtain ⟨rfl, _⟩ := h
    obtain ⟨t, rfl⟩ := r
    exact ⟨[], .int i t, fun _ z => nomatch z⟩
  | .str z, x, u, h, r => by
    unfold Dat at h
    obtain ⟨rfl, _⟩ := h
    obtain ⟨t, rfl⟩ := r
    exact ⟨[], .str z t, fun _ z => nomatch z⟩
  | .list ds, x, u, h, r => by
    unfold Dat at h
    obtain ⟨a, xs, rfl, _, hs, hd⟩ := h
    obtain rfl : u = Value.ref a := r
    obtain ⟨its, rv, ⟨o, n, e, c, _, d⟩, _⟩ := I.list hs
    obtain ⟨as, ra, _⟩ := datL_reads I ds hd rv
    exact ⟨a :: as, .list e c d (by simpa using ra), fun z => by unfold noList at z; cases z⟩
  | .tuple ds, x, u, h, r => by
    unfold Dat at h
    obtain ⟨a, xs, rfl, hs, hd⟩ := h
    obtain rfl : u = Value.ref a := r
    obtain ⟨its, rv, ⟨o, e, c, n, d⟩, _⟩ := I.tuple hs
    obtain ⟨as, ra, ns⟩ := datL_reads I ds hd rv
    exact ⟨as, .tuple e c d (by simpa using ra), fun z => ns (by unfold noList at z; exact z)⟩
  | .dict kvs, x, u, h, r => by
    unfold Dat at h
    obtain ⟨a, ps, rfl, hs, hd⟩ := h
    obtain rfl : u = Value.ref a := r
    obtain ⟨_, hsys, vs, kv, o, es, ep, e, ex, d, ks, pr, _⟩ := (show ObjOk X.prog X.w H s.heap a (.dK ps) from I.hok a _ hs)
    obtain ⟨bs, b1, b2, n2⟩ := datK_reads I kvs hd kv pr
    refine ⟨a :: [] ++ bs, .dict e ex.1 d b1 b2, fun z => ?_⟩
    unfold noList at z
    intro m
    rcases List.mem_cons.mp m with m | m
    · rw [m] at hsys
      simp at hsys
    · exact n2 z m
theorem datL_reads (I : Inv X pins σ H s) : ∀ (ds : List PyData) {xs : List V} {us : List Value}, DatL X.K z0 H ds xs → Vals xs us → ∃ as, ReadsAll s.heap us ds as ∧ (noListL ds = true → sysModules ∉ as)
  | [], xs, us, h, r => by
    unfold DatL at h
    subst h
    cases r
    exact ⟨[], .nil, fun _ z => nomatch z⟩
  | d :: ds, xs, us, h, r => by
    unfold DatL at h
    obtain ⟨x, r', rfl, h1, h2⟩ := h
    cases r with
    | cons r1 r2 =>
      obtain ⟨as, a1, n1⟩ := dat_reads I d h1 r1
      obtain ⟨bs, a2, n2⟩ := datL_reads I ds h2 r2
      refine ⟨as ++ bs, .cons a1 a2, fun z => ?_⟩
      unfold noListL at z
      obtain ⟨z1, z2⟩ := Bool.and_eq_true_iff.mp z
      exact fun m => (List.mem_append.mp m).elim (n1 z1) (n2 z2)
theorem datK_reads (I : Inv X pins σ H s) : ∀ (kvs : List (PyData × PyData)) {ps : List (Key × V)} {vs : List (Key × Value)} {es : List DictEntry}, DatK X.K z0 H kvs ps → KV ps vs → Pairs (mixKind X.prog X.w) es vs →
    ∃ bs, ReadsAll s.heap (es.map (·.key)) (kvs.map (·.1)) [] ∧ ReadsAll s.heap (es.map (·.val)) (kvs.map (·.2)) bs ∧ (noListK kvs = true → sysModules ∉ bs)
  | [], ps, vs, es, h, r, pr => by
    unfold DatK at h
    subst h
    cases r
    cases pr
    exact ⟨[], .nil, .nil, fun _ z => nomatch z⟩
  | (k, d) :: kvs, ps, vs, es, h, r, pr => by
    unfold DatK at h
    obtain ⟨kk, x, r', rfl, rfl, _, h1, h2⟩ := h
    cases r with
    | cons r1 r2 =>
      cases pr with
      | @cons en _ _ _ p1 p2 p3 =>
        obtain ⟨as, a1, n1⟩ := dat_reads I d h1 r1.2
        obtain ⟨bs, b1, b2, n2⟩ := datK_reads I kvs h2 r2 p3
        have key : Reads s.heap en.key (keyD kk) [] := by
          rcases keyIs_shape (show keyIs _ _ = true from p1) with ⟨i, t, e1, e2⟩ | ⟨z, t, e1, e2⟩
          · rw [show kk = .inl i from r1.1.trans e1]
            exact e2 ▸ Reads.int i t
          · rw [show kk = .inr z from r1.1.trans e1]
            exact e2 ▸ Reads.str z t
        refine ⟨as ++ bs, by exact ReadsAll.cons (as := []) (bs := []) key b1, by simpa [p2] using ReadsAll.cons a1 b2, fun z => ?_⟩
        unfold noListK at z
        obtain ⟨_, z⟩ := Bool.and_eq_true_iff.mp z
        obtain ⟨z1, z2⟩ := Bool.and_eq_true_iff.mp z
        exact fun m => (List.mem_append.mp m).elim (n1 z1) (n2 z2)
end
end
mutual
theorem dat_show {K : PySem.W.Frag} {H : Hp} {z0 : Addr} : ∀ (d : PyData) {x : V}, Dat K z0 H d x → d.showable = true
  | .none, x, h => by simp only [PyData.showable]
  | .bool b, x, h => by simp only [PyData.showable]
  | .int i, x, h => by
    unfold Dat at h
    simp only [PyData.showable, decide_eq_true_eq]
    exact h.2
  | .str z, x, h => by simp only [PyData.showable]
  | .list ds, x, h => by
    unfold Dat at h
    obtain ⟨a, xs, _, _, _, h⟩ := h
    simp only [PyData.showable]
    exact datL_show ds h
  | .tuple ds, x, h => by
    unfold Dat at h
    obtain ⟨a, xs, _, _, h⟩ := h
    simp only [PyData.showable]
    exact datL_show ds h
  | .dict kvs, x, h => by
    unfold Dat at h
    obtain ⟨a, xs, _, _, h⟩ := h
    simp only [PyData.showable]
    exact datK_show kvs h
theorem datL_show {K : PySem.W.Frag} {H : Hp} {z0 : Addr} : ∀ (ds : List PyData) {xs : List V}, DatL K z0 H ds xs → PyData.showableAll ds = true
  | [], xs, h => by simp only [PyData.showableAll]
  | d :: ds, xs, h => by
    unfold DatL at h
    obtain ⟨x, r, _, h1, h2⟩ := h
    simp only [PyData.showableAll, dat_show d h1, datL_show ds h2, Bool.and_self]
theorem datK_show {K : PySem.W.Frag} {H : Hp} {z0 : Addr} : ∀ (kvs : List (PyData × PyData)) {ps : List (Key × V)}, DatK K z0 H kvs ps → PyData.showableKv kvs = true
  | [], xs, h => by simp only [PyData.showableKv]
  | (k, d) :: kvs, xs, h => by
    unfold DatK at h
    obtain ⟨kk, x, r, _, rfl, hk, h1, h2⟩ := h
    have : (keyD kk).showable = true := by
      cases kk with
      | inl i =>
        show PyData.showable (.int i) = true
        simp only [PyData.showable, decide_eq_true_eq]
        exact hk
      | inr z =>
        show PyData.showable (.str z) = true
        simp only [PyData.showable]
    simp only [PyData.showableKv, this, dat_show d h1, datK_show kvs h2, Bool.and_self]
end
theorem text_le {ts : List Str} {n : Nat} (h : piled ts ≤ n) : (listText ts).length ≤ n + 2 ∧ (tupleText ts).length ≤ n + 3 ∧ (dictText ts).length ≤ n + 2 := by
  cases ts with
  | nil => exact ⟨by show 2 ≤ n + 2; omega, by show 2 ≤ n + 3; omega, by show 2 ≤ n + 2; omega⟩
  | cons t r =>
    have j := join_length_add (t :: r) (by simp)
    refine ⟨?_, ?_, ?_⟩
    · have h1 := textFrom_length_pos r 1 (("[" : Str) ++ (if (0 : Nat) > 0 then ", " else "" : String) ++ t) (by decide)
      have h2 : (("[" : Str) ++ (if (0 : Nat) > 0 then ", " else "" : String) ++ t).length = 1 + t.length := by
        rw [strLen_append, strLen_append] <;> rfl
      have h3 : (listText (t :: r)).length = (textFrom 1 (("[" : Str) ++ (if (0 : Nat) > 0 then ", " else "" : String) ++ t) r).length + 1 := by
        show (textFrom 0 "[" (t :: r) ++ "]").length = _
        rw [strLen_append] <;> rfl
      rw [piled_cons] at h
      omega
    · unfold tupleText
      rw [strLen_append, strLen_append]
      have h1 : ((("(" : String) : Str)).length = 1 := rfl
      have h2 : (((if (t :: r).length == 1 then ",)" else ")" : String) : Str)).length ≤ 2 := by split <;> decide
      omega
    · unfold dictText
      rw [strLen_append, strLen_append]
      have h1 : ((("{" : String) : Str)).length = 1 := rfl
      have h2 : ((("}" : String) : Str)).length = 1 := rfl
      omega
theorem int_cap {i : Int} (h : i.natAbs.log2 < 1920) : (Str.ofString (toString i)).length ≤ 1921 := by
  have e := int_text_length_le (k := 1920) (by decide) h
  rw [PySem.ofString_length]
  exact e
mutual
theorem dat_cap {K : PySem.W.Frag} {H : Hp} {z0 : Addr} : ∀ (d : PyData) {x : V}, Dat K z0 H d x → d.shown.length ≤ cap d
  | .none, x, h => by simp only [PyData.shown, cap]; decide
  | .bool b, x, h => by simp only [PyData.shown, cap]; cases b <;> decide
  | .int i, x, h => by
    unfold Dat at h
    simp only [PyData.shown, cap]
    exact int_cap h.2
  | .str z, x, h => by
    unfold Dat at h
    simp only [PyData.shown, cap]
    exact StrLaws.reprText_len z h.2
  | .list ds, x, h => by
    unfold Dat at h
    obtain ⟨a, xs, _, _, _, h⟩ := h
    simp only [PyData.shown, cap]
    exact (text_le (datL_cap ds h)).1
  | .tuple ds, x, h => by
    unfold Dat at h
    obtain ⟨a, xs, _, _, h⟩ := h
    simp only [PyData.shown, cap]
    exact (text_le (datL_cap ds h)).2.1
  | .dict kvs, x, h => by
    unfold Dat at h
    obtain ⟨a, xs, _, _, h⟩ := h
    simp only [PyData.shown, cap]
    exact (text_le (datK_cap kvs h)).2.2
theorem datL_cap {K : PySem.W.Frag} {H : Hp} {z0 : Addr} : ∀ (ds : List PyData) {xs : List V}, DatL K z0 H ds xs → piled (PyData.shownAll ds) ≤ capL ds
  | [], xs, h => by simp only [PyData.shownAll, capL, piled_nil]; exact Nat.le_refl _
  | d :: ds, xs, h => by
    unfold DatL at h
    obtain ⟨x, r, _, h1, h2⟩ := h
    have a := dat_cap d h1
    have b := datL_cap ds h2
    simp only [PyData.shownAll, capL, piled_cons]
    omega
theorem datK_cap {K : PySem.W.Frag} {H : Hp} {z0 : Addr} : ∀ (kvs : List (PyData × PyData)) {ps : List (Key × V)}, DatK K z0 H kvs ps → piled (PyData.shownKv kvs) ≤ capK kvs
  | [], xs, h => by simp only [PyData.shownKv, capK, piled_nil]; exact Nat.le_refl _
  | (k, d) :: kvs, xs, h => by
    unfold DatK at h
    obtain ⟨kk, x, r, _, rfl, hk, h1, h2⟩ := h
    have a := dat_cap d h1
    have b := datK_cap kvs h2
    have c : (keyD kk).shown.length ≤ cap (keyD kk) := by
      cases kk with
      | inl i =>
        show (PyData.shown (.int i)).length ≤ cap (.int i)
        simp only [PyData.shown, cap]
        exact int_cap hk
      | inr z =>
        show (PyData.shown (.str z)).length ≤ cap (.str z)
        simp only [PyData.shown, cap]
        exact StrLaws.reprText_len z hk
    simp only [PyData.shownKv, capK, piled_cons, strLen_append]
    have e : (Str.ofString ": ").length = 2 := rfl
    omega
end
/-- repr(x), where nothing is being shown -/
def rRepr (K : PySem.W.Frag) : List V → Hp → VK → Prop := fun xs H Q => ∃ (x : V) (d : PyData) (z0 : Addr), xs = [x] ∧ Dat K z0 H d x ∧ cap d ≤ 16000000 ∧ d.depth ≤ 100 ∧ (d.hasDict = true → noList d = true) ∧ Q (.str d.shown) H
theorem call_repr {X : Cx} {k : Nat} (hg : X.A.guards = some []) (hr : Room k X.A) : CallR X (.builtin "repr") (rRepr X.K) := by
  intro pins s σ H xs us Q I r h
  obtain ⟨x, d, z0, rfl, hd, hc, hp, hl, q⟩ := h
  obtain ⟨u, rfl, ru⟩ := vals1 r
  have sz : d.shown.length ≤ sizeLine := Nat.le_trans (dat_cap d hd) (Nat.le_trans hc (by decide))
  obtain ⟨as, rd, ns⟩ := dat_reads I d hd ru
  have un := hr.un
  have go : ∀ a, u = .ref a → wpAny (model X.prog X.w) X.A (call (.builtin "repr") [u]) (EP X pins σ Q) X.xe s := fun a e => by
    subst e
    exact repr_of_reads' rd (dat_show d hd) (fun z => ns (hl z)) hg (by omega) (fun _ _ e => e) (fun h' t tk kp => ⟨.str d.shown, H, I.kept kp, ⟨t, rfl⟩, q⟩) sz
  cases d with
  | none =>
    unfold Dat at hd
    subst hd
    cases ru
    exact PySem.P.repr_of_none ⟨.str _, H, I.tok _, ⟨_, rfl⟩, by simpa only [PyData.shown] using q⟩
  | bool b =>
    unfold Dat at hd
    subst hd
    cases ru
    exact PySem.P.repr_of_bool ⟨.str _, H, I.tok _, ⟨_, rfl⟩, by simpa only [PyData.shown] using q⟩
  | int i =>
    unfold Dat at hd
    obtain ⟨rfl, hi⟩ := hd
    obtain ⟨t, rfl⟩ := ru
    exact PySem.P.repr_of_int hi ⟨.str _, H, I.tok _, ⟨_, rfl⟩, by simpa only [PyData.shown] using q⟩
  | str z =>
    unfold Dat at hd
    obtain ⟨rfl, hi⟩ := hd
    obtain ⟨t, rfl⟩ := ru
    simp only [PyData.shown] at sz q
    exact PySem.P.repr_of_str ⟨.str _, H, I.tok _, ⟨_, rfl⟩, q⟩ sz
  | list ds =>
    have hd' := hd
    unfold Dat at hd'
    obtain ⟨a, _, rfl, _⟩ := hd'
    exact go a ru
  | tuple ds =>
    have hd' := hd
    unfold Dat at hd'
    obtain ⟨a, _, rfl, _⟩ := hd'
    exact go a ru
  | dict ds =>
    have hd' := hd
    unfold Dat at hd'
    obtain ⟨a, _, rfl, _⟩ := hd'
    exact go a ru

mutual
/-- .. stays where all but tables, and but a list at z0, stays -/
theorem dat_ext {K : PySem.W.Frag} {H H' : Hp} {z0 : Addr} (e : ∀ b o, H b = some o → (∀ ps, o ≠ .tbl ps) → (b ≠ z0 ∨ ∀ xs, o ≠ .lst xs ∧ ∀ o', o ≠ .frz o' (.lst xs)) → H' b = some o) : ∀ (d : PyData) {x : V}, Dat K z0 H d x → Dat K z0 H' d x
  | .none, x, h => by unfold Dat at h ⊢; exact h
  | .bool b, x, h => by unfold Dat at h ⊢; exact h
  | .int i, x, h => by unfold Dat at h ⊢; exact h
  | .str z, x, h => by unfold Dat at h ⊢; exact h
  | .list ds, x, h => by
    unfold Dat at h ⊢
    obtain ⟨a, xs, h1, h2, h3, h4⟩ := h
    refine ⟨a, xs, h1, h2, ?_, datL_ext e ds h4⟩
    rcases h3 with (h3 | ⟨o, h3⟩) | h3
    · exact .inl (.inl (e _ _ h3 (fun ps z => nomatch z) (.inl h2)))
    · exact .inl (.inr ⟨o, e _ _ h3 (fun ps z => nomatch z) (.inl h2)⟩)
    · exact .inr h3
  | .tuple ds, x, h => by
    unfold Dat at h ⊢
    obtain ⟨a, xs, h1, h3, h4⟩ := h
    refine ⟨a, xs, h1, ?_, datL_ext e ds h4⟩
    rcases h3 with (h3 | ⟨o, h3⟩) | h3
    · exact .inl (.inl (e _ _ h3 (fun ps z => nomatch z) (.inr fun ys => ⟨(fun z => nomatch z), fun o' z => nomatch z⟩)))
    · exact .inl (.inr ⟨o, e _ _ h3 (fun ps z => nomatch z) (.inr fun ys => ⟨(fun z => nomatch z), fun o' z => nomatch z⟩)⟩)
    · exact .inr h3
  | .dict kvs, x, h => by
    unfold Dat at h ⊢
    obtain ⟨a, ps, h1, h3, h4⟩ := h
    exact ⟨a, ps, h1, e _ _ h3 (fun ps z => nomatch z) (.inr fun ys => ⟨(fun z => nomatch z), fun o' z => nomatch z⟩), datK_ext e kvs h4⟩
theorem datL_ext {K : PySem.W.Frag} {H H' : Hp} {z0 : Addr} (e : ∀ b o, H b = some o → (∀ ps, o ≠ .tbl ps) → (b ≠ z0 ∨ ∀ xs, o ≠ .lst xs ∧ ∀ o', o ≠ .frz o' (.lst xs)) → H' b = some o) : ∀ (ds : List PyData) {xs : List V}, DatL K z0 H ds xs → DatL K z0 H' ds xs
  | [], xs, h => by unfold DatL at h ⊢; exact h
  | d :: ds, xs, h => by
    unfold DatL at h ⊢
    obtain ⟨x, r, h1, h2, h3⟩ := h
    exact ⟨x, r, h1, dat_ext e d h2, datL_ext e ds h3⟩
theorem datK_ext {K : PySem.W.Frag} {H H' : Hp} {z0 : Addr} (e : ∀ b o, H b = some o → (∀ ps, o ≠ .tbl ps) → (b ≠ z0 ∨ ∀ xs, o ≠ .lst xs ∧ ∀ o', o ≠ .frz o' (.lst xs)) → H' b = some o) : ∀ (kvs : List (PyData × PyData)) {ps : List (Key × V)}, DatK K z0 H kvs ps → DatK K z0 H' kvs ps
  | [], xs, h => by unfold DatK at h ⊢; exact h
  | (k, d) :: kvs, xs, h => by
    unfold DatK at h ⊢
    obtain ⟨kk, x, r, h1, h2, h3, h4, h5⟩ := h
    exact ⟨kk, x, r, h1, h2, h3, dat_ext e d h4, datK_ext e kvs h5⟩
end
theorem dat_same {K : PySem.W.Frag} {H H' : Hp} {z0 : Addr} (e : Same H H') {d : PyData} {x : V} (h : Dat K z0 H d x) : Dat K z0 H' d x := dat_ext (fun b o q _ _ => e b o q) d h
theorem dat_extN {K : PySem.W.Frag} {H H' : Hp} {z0 : Addr} (e : ExtN H H') {d : PyData} {x : V} (h : Dat K z0 H d x) : Dat K z0 H' d x := dat_ext (fun b o q n _ => e b o q n) d h
theorem dat_butT {K : PySem.W.Frag} {H H' : Hp} {z0 : Addr} (e : ButT z0 H H') {ns : List V} (hz : H z0 = some (.lst ns)) {d : PyData} {x : V} (h : Dat K z0 H d x) : Dat K z0 H' d x := dat_ext (fun b o q n r => e b o (by
    rcases r with r | r
    · exact r
    · exact fun z => (r ns).1 (by rw [z, hz] at q; exact (Option.some.inj q).symm)) q n) d h
/-- a small piece of data, with how it can be shown -/
def Sml (K : PySem.W.Frag) (z0 : Addr) (H : Hp) (n m : Nat) (d : PyData) (x : V) : Prop := Dat K z0 H d x ∧ cap d ≤ m ∧ d.depth ≤ n ∧ (d.hasDict = true → noList d = true)
/-- a word of fates -/
def wdD (lo hi : Nat) : PyData → Bool
  | .str z => decide (lo ≤ z.length) && (decide (z.length ≤ hi) && z.cps.toList.all fun c => decide (c ∈ [110, 102, 115]))
  | _ => false
def lossD : PyData → Bool
  | .tuple [h, r] => wdD 0 200 h && wdD 1 200 r
  | _ => false
def datTy : PyData → String
  | .none => "NoneType"
  | .bool _ => "bool"
  | .int _ => "int"
  | .str _ => "str"
  | .list _ => "list"
  | .tuple _ => "tuple"
  | .dict _ => "dict"
theorem dat_ty {K : PySem.W.Frag} {z0 : Addr} {H : Hp} {d : PyData} {x : V} (h : Dat K z0 H d x) : TyB K H x (datTy d) := by
  cases d <;> unfold Dat at h
  · subst h; exact .non
  · subst h; exact .bl _
  · obtain ⟨rfl, _⟩ := h; exact .int _
  · obtain ⟨rfl, _⟩ := h; exact .str _
  · obtain ⟨a, xs, rfl, _, h, _⟩ := h; exact .lst h
  · obtain ⟨a, xs, rfl, h, _⟩ := h; exact .tup h
  · obtain ⟨a, xs, rfl, h, _⟩ := h; exact .dK h
theorem dat_tyx {K : PySem.W.Frag} {z0 : Addr} {H : Hp} {d : PyData} {x : V} (h : Dat K z0 H d x) : TyX K H x (.type (datTy d)) := by
  cases d <;> unfold Dat at h
  · subst h; exact .base .non
  · subst h; exact .base (.bl _)
  · obtain ⟨rfl, _⟩ := h; exact .base (.int _)
  · obtain ⟨rfl, _⟩ := h; exact .base (.str _)
  · obtain ⟨a, xs, rfl, _, (h | ⟨o, h⟩) | ⟨o, its, n, h, c, _⟩, _⟩ := h
    · exact .base (.lst h)
    · exact .base (.frz h)
    · exact .kList h c
  · obtain ⟨a, xs, rfl, (h | ⟨o, h⟩) | ⟨o, its, n, h, c, _⟩, _⟩ := h
    · exact .base (.tup h)
    · exact .fTuple h
    · exact .kTuple h c
  · obtain ⟨a, xs, rfl, h, _⟩ := h; exact .base (.dK h)
theorem r_isiD {K : PySem.W.Frag} {z0 : Addr} {H : Hp} {Q : VK} {d : PyData} {x : V} {T : String} {b : Bool} (h : Dat K z0 H d x) (hk : kitB (datTy d) T = some b) (q : Q (.bl b) H) : rIsi K [x, .ty T] H Q := r_isi (dat_tyx h) hk q
theorem ty_in (d : PyData) : datTy d ∈ ["NoneType", "bool", "int", "str", "list", "tuple", "dict"] := by cases d <;> simp [datTy]
theorem isstr (d : PyData) : kitB (datTy d) "str" = some (decide (datTy d = "str")) := (by decide +kernel : ∀ T ∈ ["NoneType", "bool", "int", "str", "list", "tuple", "dict"], kitB T "str" = some (decide (T = "str"))) _ (ty_in d)
theorem istup (d : PyData) : kitB (datTy d) "tuple" = some (decide (datTy d = "tuple")) := (by decide +kernel : ∀ T ∈ ["NoneType", "bool", "int", "str", "list", "tuple", "dict"], kitB T "tuple" = some (decide (T = "tuple"))) _ (ty_in d)
theorem isbool (d : PyData) : kitB (datTy d) "bool" = some (decide (datTy d = "bool")) := (by decide +kernel : ∀ T ∈ ["NoneType", "bool", "int", "str", "list", "tuple", "dict"], kitB T "bool" = some (decide (T = "bool"))) _ (ty_in d)
theorem isint (d : PyData) : kitB (datTy d) "int" = some (decide (datTy d = "int") || decide (datTy d = "bool")) := (by decide +kernel : ∀ T ∈ ["NoneType", "bool", "int", "str", "list", "tuple", "dict"], kitB T "int" = some (decide (T = "int") || decide (T = "bool"))) _ (ty_in d)
theorem ty_str {d : PyData} (h : datTy d = "str") : ∃ z, d = .str z := by
  cases d with
  | str z => exact ⟨z, rfl⟩
  | _ => simp [datTy] at h
theorem ty_tup {d : PyData} (h : datTy d = "tuple") : ∃ ds, d = .tuple ds := by
  cases d with
  | tuple z => exact ⟨z, rfl⟩
  | _ => simp [datTy] at h
theorem wdD_str {lo hi : Nat} {d : PyData} (h : datTy d ≠ "str") : wdD lo hi d = false := by
  cases d with
  | str z => exact absurd rfl h
  | _ => rfl
theorem wdD_S {lo hi : Nat} {l : List Nat} : wdD lo hi (.str (S l)) = (decide (lo ≤ l.length) && (decide (l.length ≤ hi) && l.all fun c => decide (c ∈ [110, 102, 115]))) := by
  show (decide (lo ≤ (S l).length) && (decide ((S l).length ≤ hi) && (S l).cps.toList.all fun c => decide (c ∈ [110, 102, 115]))) = _
  rw [S_len, S_codes]
/-! ### defs that want to know that nothing is being shown -/
abbrev Free (A : Around) : Prop := A.guards = some []
structure OkG (P : Program) (w : World) (K : PySem.W.Frag) (mg : Str → Option Value) (base : Heap) (k : Nat) (x : Str) (st : Stmt) (ps : List Str) (sp : Sp) : Prop where
  ex : ∃ f fd, mg x = some (.ref f) ∧ FnP K x st f fd ∧ Binds K fd ps [] ∧ (∀ vs H Q E, sp vs H Q E → vs.length = ps.length) ∧
    ∀ (A : Around) (outer : List Env) (s : Shared) (H : Hp) (args : Args) (us : List Value) (vs : List V) (Q : VK) (E : XK), Free A → Room k A → Env0 P w K mg base A outer s H → BindsTo s fd args (ps.zip us) → Vals vs us → sp vs H Q E →
      codeAny (model P w) A (.call (.ref f) args) (CR CX0 outer P w H s Q E) s
theorem okG_of {P : Program} {w : World} {K : PySem.W.Frag} {mg : Str → Option Value} {base : Heap} {k : Nat} {x : Str} {st : Stmt} {N ps : List Str} {sp : Sp} {fd : FuncData} (g : mg x = some (.ref (He.ga K x))) (D : FnP K x st (He.ga K x) fd) (b : Binds K fd ps []) (S : FnScope N ps (defScope st)) (len : ∀ vs H Q E, sp vs H Q E → vs.length = ps.length)
    (hbody : ∀ (cdv : Value) (A : Around) (outer : List Env) (s : Shared) (H : Hp) (vs : List V) (Q : VK) (E : XK), Free (A.deeper (envOfC x (defScope st) s.heap.objs.size (He.ga K x) cdv)) → cdv = .ref (He.cT K (x, none)).1 → Room k (A.deeper (envOfC x (defScope st) s.heap.objs.size (He.ga K x) cdv)) → sp vs H Q E →
      ∃ t, PSs (cxOf CX0 P w K mg base N x (defScope st) (He.ga K x) cdv A outer s H E) (defBody st) t ∧ t { nx := fun _ H' => Q .non H', rt := Q } (start N vs) H) : OkG P w K mg base (k + 1) x st ps sp := by
  refine ⟨_, fd, g, D, b, len, fun A outer s H args us vs Q E hf hr e0 hb r h => ?_⟩
  obtain ⟨oc, od, dV, kV, doc, pm, an, cdv, ct, osl, rfl, lk, hcd, _, _⟩ := D.ex
  obtain ⟨c, rfl⟩ := He.codeIn_ref hcd
  have ec : He.codeOf K (x, none) = c := He.codeOf_eq (p := (x, none)) lk rfl
  exact run_ofS lk hcd S hr e0 hb r (len _ _ _ _ h) fun hr' => hbody (.ref c) A outer s H vs Q E hf (by rw [← ec] <;> rfl) hr' h
section
variable {X : Cx} {k j : Nat} {x : Str} {st : Stmt} {ps : List Str} {sp : Sp} {E : XK} {e : Expr} {es : List Expr} {t : TA} {p pos : Pos}
theorem pe_clG (F : OkG X.prog X.w X.K X.mg X.base k x st ps sp) (hf : Free X.A) (hr : Room j X.A) (hg : Gl X x) (ha : PA X (e :: es) t) (hj : k ≤ j := by decide) (hdb : (x == ("__debug__" : Str)) = false := by decide) (he : starEach (e :: es) X.env = (false, eval e X.env) :: starEach es X.env := by rfl)
    (hpl : (backTo pos (starEach es X.env)).any (·.1) = false := by rfl) : PE X (.Call (.Name x p) (e :: es) [] pos) (tCall sp [] E t) := by
  obtain ⟨f, fd, gg, D, b, len, F⟩ := F.ex
  refine ⟨fun pins s σ H Q I h => ?_⟩
  refine wpAny_Call_Name_kw (ld_glob I hg gg ?_ hdb)
  refine PySem.W.callWith_K (h₀ := X.base) I.ok.mod.kin D.kp (thn (ha.run pos pins s σ H _ I h) fun us s1 ⟨vs, H1, I1, r, h1⟩ => ⟨I1.kIn, ?_⟩) he hpl
  have h1 : sp (vs ++ []) H1 Q E := h1
  rw [List.append_nil] at h1
  have hl := len _ _ _ _ h1
  have hb := b s1 us I1.kIn (by rw [List.append_nil, ← r.length]; exact hl)
  rw [List.append_nil] at hb
  refine wpAny_call (codeAny_mono (F X.A X.stack s1 H1 ⟨us, []⟩ us vs Q E hf (hr.mono hj) I1.env0 hb r h1) fun r s' hq => ?_)
  cases r with
  | error e => exact False.elim hq
  | ok fl => cases fl with
    | ret u => exact I1.after hq
    | _ => exact False.elim hq
end
/-- the end of such a law -/
theorem walk_ofG {l : PySem.W.OpenLaw} {n k : Nat} {q : Program} {loose : List Str} {XP : (Str → Option Value) → Heap → Prop} {YP : World → Heap → Prop} {d : DefRec} {x : Str} {st : Stmt} {tf : List He.Defn} {fl : List He.Fa} {fn : List He.DefD} {ex : PySem.W.Frag → Bool} {sp : PySem.W.Frag → Sp}
    (hn : l.most = some n) (hn2 : n ≤ sizeLine) (hdf : d.params.defaults = []) (hr : Room k callerA) (hY : ∀ (w : World) (h : Heap), YP w h → ∃ K : PySem.W.Frag, K.In h ∧ He.SaysX fl fn [] tf ex w h K)
    (hb : ∀ {K : PySem.W.Frag} {f : Addr} {fd : FuncData}, FnP K d.name st f fd → ∀ (s : Shared) (u : Value), BindsTo s fd ⟨[u], []⟩ [(x, u)])
    (hsp : ∀ (K : PySem.W.Frag) (H : Hp) (a : Addr) (ns : List Int), ns.length ≤ n → Tabs (tabs K tf) H → SqL K H a (ns.map V.int) → sp K [.ref a] H (fun v _ => v = .bl true) E0)
    (F : ∀ (w : World) (mg : Str → Option Value) (h : Heap) (K : PySem.W.Frag), K.In h → He.SaysX fl fn [] tf ex w h K → h.Ns mainGlobals mg → ∀ base : Heap, K.In base → base.Ns mainGlobals mg → TBs K mg base tf → OkG l.prog w K mg base k d.name st [x] (sp K)) :
    PySem.W.WalkO q loose XP YP l.row.toRowW d [] (fun f vs => PySem.call f vs) := by
  refine Att.attach_callB hn hdf fun w s₀ s₁ mg mb fa o pm cd doc a vs ns G Y ho hd hcd hmg hobj hints hlen hbits hg => ?_
  obtain ⟨K, KX, c⟩ := hY w _ Y
  have fw : ∀ {φ : Addr × Addr → Prop}, (∀ p ∈ tf, φ (He.cT K p)) → ∀ q ∈ tf.map (He.cT K), φ q := fun h q hq => by
    obtain ⟨p, hp, rfl⟩ := List.mem_map.mp hq
    exact h p hp
  refine bottomed KX G.T.g G.T.b G.T.builtins G.T.nolimit hg (fw c.empty) (fw c.out) (fw fun p hp => PySem.W.codeHd_of_K KX (c.hd p hp)) G.T.bmain hobj hints (Nat.le_trans hlen hn2) fun base H B => ?_
  have hT : TBs K mg base tf := fun p hp => B.tabs _ (List.mem_map.mpr ⟨p, hp, rfl⟩)
  obtain ⟨f, fd, gg, D, b, len, run⟩ := (F w mg _ K KX c G.T.g base B.env.mod.kin B.env.mod.glob hT).ex
  rw [hmg] at gg
  cases gg
  have tb : Tabs (tabs K tf) H := fun r hr => by
    obtain ⟨p, hp, rfl⟩ := List.mem_map.mp hr
    exact TabS.nil (B.emp _ (List.mem_map.mpr ⟨p, hp, rfl⟩))
  exact run callerA [] s₁ H ⟨[.ref a], []⟩ [.ref a] [.ref a] _ _ rfl hr B.env (hb D s₁ (.ref a)) (.cons rfl .nil) (hsp K H a ns hlen tb B.scr)

/-! ### d.update(other), xs == [] -/
def rUpd : V → List V → Hp → VK → Prop := fun x xs H Q => ∃ (d o : Addr) (kvs more : List (Key × V)), x = .ref d ∧ xs = [.ref o] ∧ H d = some (.dK kvs) ∧ H o = some (.dK more) ∧ d ≠ o ∧ kvs.length + more.length ≤ 1000 ∧ (mergeK kvs more).length ≤ 1000 ∧ Q .non (upd H d (.dK (mergeK kvs more)))
theorem mt_update {X : Cx} : MtR X "dict.update" rUpd := by
  intro pins s σ H x xs v us Q I rx rs h
  obtain ⟨d, o, kvs, more, rfl, rfl, e, e2, ne, hl, hl2, q⟩ := h
  obtain rfl : v = Value.ref d := rx
  obtain ⟨u, rfl, ru⟩ := vals1 rs
  obtain rfl : u = Value.ref o := ru
  obtain ⟨z, hd, vs, rel, dd⟩ := dk_of I.hok e
  obtain ⟨z2, hd2, vs2, rel2, dd2⟩ := dk_of I.hok e2
  have sz : vs.length + vs2.length ≤ sizeLine := by
    rw [← rel.length, ← rel2.length, sizeLine_eq]
    omega
  refine call_meetsIn PySem.F.slot_dict_update dd.typeIs PySem.F.entry_dict_update (PySem.F.args_dict_update_2 _ _) (meets_dict_update (mixKind X.prog X.w) d o ne hd2) ⟨vs, vs2, dd, dd2, sz, fun h' dd' _ hs => ?_⟩
  have he : ∃ q, h'.get? d = some q := let ⟨q, _, _, hq, _⟩ := dd'; ⟨q, hq⟩
  exact ⟨.non, _, d_write (t' := s.toks) I (by rw [e]; exact True.intro) hs he (dk_new (Nat.le_trans hl2 (by rw [sizeLine_eq]; omega)) hd (KV.merge rel2 rel) dd'), rfl, q⟩

/-! ### data, piece by piece -/
section
variable {K : PySem.W.Frag} {z0 : Addr} {H : Hp}
theorem dat_non : Dat K z0 H .none .non := by unfold Dat; rfl
theorem dat_bl {b : Bool} : Dat K z0 H (.bool b) (.bl b) := by unfold Dat; rfl
theorem dat_int {i : Int} (h : i.natAbs.log2 < 1920) : Dat K z0 H (.int i) (.int i) := by unfold Dat; exact ⟨rfl, h⟩
theorem dat_S {l : List Nat} (h : ∀ c ∈ l, c < 16 ^ 8) : Dat K z0 H (.str (S l)) (.str (S l)) := by
  unfold Dat okPts
  rw [S_codes]
  exact ⟨rfl, h⟩
theorem datL_nil : DatL K z0 H [] [] := by unfold DatL; rfl
theorem datL_cons {d : PyData} {ds : List PyData} {x : V} {xs : List V} (h : Dat K z0 H d x) (r : DatL K z0 H ds xs) : DatL K z0 H (d :: ds) (x :: xs) := by
  rw [DatL]
  exact ⟨x, xs, rfl, h, r⟩
theorem dat_tup {a : Addr} {xs : List V} {ds : List PyData} (h : SqT K H a xs) (r : DatL K z0 H ds xs) : Dat K z0 H (.tuple ds) (.ref a) := by
  rw [Dat]
  exact ⟨a, xs, rfl, h, r⟩
theorem dat_lst {a : Addr} {xs : List V} {ds : List PyData} (n : a ≠ z0) (h : SqL K H a xs) (r : DatL K z0 H ds xs) : Dat K z0 H (.list ds) (.ref a) := by
  rw [Dat]
  exact ⟨a, xs, rfl, n, h, r⟩
theorem datK_nil : DatK K z0 H [] [] := by unfold DatK; rfl
theorem datK_cons {l : List Nat} {d : PyData} {r : List (PyData × PyData)} {x : V} {q : List (Key × V)} (hk : ∀ c ∈ l, c < 16 ^ 8) (h : Dat K z0 H d x) (t : DatK K z0 H r q) : DatK K z0 H ((.str (S l), d) :: r) ((.inr (S l), x) :: q) := by
  rw [DatK]
  exact ⟨.inr (S l), x, q, rfl, rfl, (by show okPts (S l); unfold okPts; rw [S_codes]; exact hk), h, t⟩
theorem dat_dic {a : Addr} {ps : List (Key × V)} {kvs : List (PyData × PyData)} (h : H a = some (.dK ps)) (r : DatK K z0 H kvs ps) : Dat K z0 H (.dict kvs) (.ref a) := by
  rw [Dat]
  exact ⟨a, ps, rfl, h, r⟩
end

/-! ### s.upper() -/
def rUpS : V → List V → Hp → VK → Prop := fun x xs H Q => ∃ l : List Nat, x = .str (S l) ∧ xs = [] ∧ l.length ≤ 1000000 ∧ l.all (· < 128) = true ∧ Q (.str (S (l.map PyProof.Rows.up1))) H
theorem mt_upS {X : Cx} : MtR X "str.upper" rUpS := by
  intro pins s σ H x xs v us Q I rx rs h
  obtain ⟨l, rfl, rfl, hl, ha, q⟩ := h
  obtain ⟨t, rfl⟩ := rx
  cases rs
  refine PySem.SC.upper (PyProof.Rows.short24 (by have := PyProof.Rows.len_upper (S l); rw [S_len] at this; omega)) ⟨.str _, H, I.tok _, ⟨_, rfl⟩, ?_⟩
  have e : Txt.upper (S l) = S (l.map PyProof.Rows.up1) := SX.upper_S ha
  rw [e]
  exact q
theorem r_upS {H : Hp} {Q : VK} {l : List Nat} (hl : l.length ≤ 1000000) (ha : l.all (· < 128) = true) (q : Q (.str (S (l.map PyProof.Rows.up1))) H) : rUpS (.str (S l)) [] H Q := ⟨l, rfl, rfl, hl, ha, q⟩

/-! ### all([test of a letter for letter in s]) -/
theorem lcS_test {l : List Nat} (f : Nat → Bool) {g : TG} {te : TE} {vs : List Nat} {σ : L2.St} {H1 : Hp} {D : Addr} {Qd : Hp → Prop} (hD : H1 D = none) (hl : l.length ≤ 1000000)
    (hs : ∀ (i c : Nat) (H : Hp), l[i]? = some c → Same H1 H → ∀ R : V → Hp → Prop, (∀ H4, Same H H4 → R (.bl (f c)) H4) → g (.str (S [c])) (wipe σ vs) H fun σ2 H2 => wipe σ2 vs = wipe σ vs ∧ te σ2 H2 R)
    (hd : ∀ H, Same H1 H → H D = some (.lst ((l.map f).map V.bl)) → Qd H) :
    ∃ W : Nat → Nat → Hp → Prop, (∃ m, W 0 m (upd H1 D (.lst []))) ∧ ∀ i m H, W i m H →
      ((Its (S l)).stop i H ∧ Qd H) ∨ ((Its (S l)).go i H ∧ ∃ Nx : Hp → Prop, (∀ H', Nx H' → ∃ m', m' < m ∧ W (i + 1) m' H') ∧ ∀ x H', (Its (S l)).yld i H x H' → g x (wipe σ vs) H' fun σ2 H2 => wipe σ2 vs = wipe σ vs ∧ tYes σ2 H2 fun b H3 =>
        if b = true then te σ2 H3 fun y H4 => ∃ acc, H4 D = some (.lst acc) ∧ acc.length < sizeLine ∧ Nx (upd H4 D (.lst (acc ++ [y]))) else Nx H3) := by
  refine lc_acc (n := l.length) (fun i H' => Same H1 H') (fun i v => ∃ c, l[i]? = some c ∧ v = .bl (f c)) hl (same_new hD) (fun i H' acc acc' e _ => Same.mut e hD) (fun i H' hi e => ?_) (fun H' e => ?_) ?_ ?_
  · show i < (S l).length
    rw [S_len]
    exact hi
  · show (S l).length ≤ l.length
    rw [S_len]
    exact Nat.le_refl _
  · rintro i x H' H2 acc hi e hacc y R hR
    obtain ⟨c, hc⟩ : ∃ c, l[i]? = some c := ⟨l[i], List.getElem?_eq_getElem hi⟩
    obtain ⟨rfl, c', e1, rfl⟩ := y
    have e1 : l[i]? = some c' := by simpa [S] using e1
    rw [hc] at e1
    cases e1
    exact hs i c _ hc e R fun H4 e4 => hR _ _ (e4 _ _ hacc) ⟨c, hc, rfl⟩ (e.trans e4)
  · intro H' acc hl2 hv hacc e
    refine hd _ e ?_
    rw [hacc]
    congr 2
    refine List.ext_getElem? fun i => ?_
    by_cases hi : i < acc.length
    · obtain ⟨c, e1, e2⟩ := hv i _ (List.getElem?_eq_getElem hi)
      rw [List.getElem?_eq_getElem hi, e2, List.getElem?_map, List.getElem?_map, e1]
      rfl
    · rw [List.getElem?_eq_none (by omega), List.getElem?_eq_none (by simp; omega)]
theorem r_allB {K : PySem.W.Frag} {H : Hp} {Q : VK} {D : Addr} {bs : List Bool} (h : H D = some (.lst (bs.map V.bl))) (q : Q (.bl (bs.all id)) H) : rAll K [.ref D] H Q := ⟨D, bs, rfl, SqL.of h, q⟩

/-! ### xs == [] -/
def rEqE (K : PySem.W.Frag) : R2 := fun x y H Q => ∃ (a b : Addr) (xs : List V), x = .ref a ∧ y = .ref b ∧ SqL K H a xs ∧ SqL K H b [] ∧ Q (.bl xs.isEmpty) H
theorem op_eqE {X : Cx} (hu : X.A.units + 64 < cLine) : OpR X (compareOp .Eq) (rEqE X.K) := by
  intro pins s σ H x y v u Q I rx ry h
  obtain ⟨a, b, xs, rfl, rfl, h1, h2, q⟩ := h
  cases xs with
  | nil => exact op_eqD hu pins s σ H _ _ v u Q I rx ry ⟨_, _, .lst h1 .nil, .lst h2 .nil, by decide, by decide, q⟩
  | cons z zs =>
    obtain rfl : v = Value.ref a := rx
    obtain rfl : u = Value.ref b := ry
    obtain ⟨its, r1, p1, _⟩ := I.list h1
    obtain ⟨its2, r2, p2, _⟩ := I.list h2
    have l1 := r1.length
    have l2 := r2.length
    refine SeqAt.eq_list_lengthsAt p1.isList p2.isList ?_ (by omega) ?_
    · simp only [List.size_toArray, ← l1, ← l2, List.length_cons, List.length_nil]
      simp
    · exact ⟨.bl false, H, I, rfl, q⟩

theorem datL_len {K : PySem.W.Frag} {z0 : Addr} {H : Hp} : ∀ {ds : List PyData} {xs : List V}, DatL K z0 H ds xs → ds.length = xs.length
  | [], xs, h => by unfold DatL at h; rw [h]; rfl
  | d :: ds, xs, h => by
    unfold DatL at h
    obtain ⟨x, r, rfl, _, h2⟩ := h
    rw [List.length_cons, List.length_cons, datL_len h2]
theorem datL_two {K : PySem.W.Frag} {z0 : Addr} {H : Hp} {d1 d2 : PyData} {xs : List V} (h : DatL K z0 H [d1, d2] xs) : ∃ x1 x2, xs = [x1, x2] ∧ Dat K z0 H d1 x1 ∧ Dat K z0 H d2 x2 := by
  rw [DatL] at h
  obtain ⟨x1, r, rfl, h1, h⟩ := h
  rw [DatL] at h
  obtain ⟨x2, r, rfl, h2, h⟩ := h
  rw [DatL] at h
  subst h
  exact ⟨x1, x2, rfl, h1, h2⟩
theorem wdD_low {d : PyData} (h : wdD 0 200 d = false) : wdD 1 200 d = false := by
  cases d with
  | str z =>
    have h : (decide (0 ≤ z.length) && (decide (z.length ≤ 200) && z.cps.toList.all fun c => decide (c ∈ [110, 102, 115]))) = false := h
    simp only [Nat.zero_le, decide_true, Bool.true_and] at h
    show (decide (1 ≤ z.length) && (decide (z.length ≤ 200) && z.cps.toList.all fun c => decide (c ∈ [110, 102, 115]))) = false
    rw [h, Bool.and_false]
  | _ => rfl
theorem wdD_val {K : PySem.W.Frag} {z0 : Addr} {H : Hp} {lo hi : Nat} {d : PyData} {x : V} (h : wdD lo hi d = true) (hd : Dat K z0 H d x) : ∃ l, d = .str (S l) ∧ x = .str (S l) := by
  cases d with
  | str z =>
    unfold Dat at hd
    exact ⟨_, congrArg PyData.str (S_of z), by rw [hd.1, ← S_of z]⟩
  | _ => unfold wdD at h; cases h
theorem wdD_one {l : List Nat} (h : wdD 0 200 (.str (S l)) = true) : wdD 1 200 (.str (S l)) = !decide (V.str (S l) = V.str (S [])) := by
  rw [wdD_S] at h ⊢
  simp only [Nat.zero_le, decide_true, Bool.true_and] at h
  rw [h, Bool.and_true]
  by_cases e : l = []
  · subst e
    simp
  · have h1 : 1 ≤ l.length := Nat.pos_of_ne_zero fun z => e (List.eq_nil_of_length_eq_zero z)
    rw [decide_eq_true h1, decide_eq_false (fun z => e (S_iff.mp z))]
    rfl
/-- what a word tells -/
theorem wdD_true {lo hi : Nat} {l : List Nat} (h : wdD lo hi (.str (S l)) = true) : Wd l ∧ lo ≤ l.length ∧ l.length ≤ hi := by
  rw [wdD_S] at h
  simp only [Bool.and_eq_true, decide_eq_true_eq, List.all_eq_true] at h
  refine ⟨fun c hc => ?_, h.1, h.2.1⟩
  have := h.2.2 c hc
  simpa using this
end Tf
/-! ### t[::-1] -/
namespace HT
open PySem PySem.Spec PyProof.Rows
section
variable {prog : Program} {w : World} {A : Around} {E : Value → Shared → Prop} {s : Shared}
theorem adjust_rev (n : Nat) : Builtin.Slice.sliceAdjust none none (-1) (n : Int) = ((n : Int) - 1, -1) := by
  unfold Builtin.Slice.sliceAdjust
  simp
theorem places_rev (n : Nat) : Builtin.Slice.slicePlaces ((n : Int) - 1) (-1) (-1) = n := by
  unfold Builtin.Slice.slicePlaces
  simp
  omega
theorem pick_rev (xs : Array Value) : ((List.range xs.size).filterMap fun (m : Nat) => xs[(((xs.size : Int) - 1) + (m : Int) * (-1)).toNat]?).toArray = xs.toList.reverse.toArray := by
  have e : (fun (m : Nat) => xs[(((xs.size : Int) - 1) + (m : Int) * (-1)).toNat]?) = (xs[·]?) ∘ fun m => xs.size - 1 - m := by
    funext m
    show _ = xs[xs.size - 1 - m]?
    have : (((xs.size : Int) - 1) + (m : Int) * (-1)).toNat = xs.size - 1 - m := by omega
    rw [this]
  rw [e, ← List.filterMap_map, PySem.W.krv_range, List.filterMap_reverse, PySem.W.krv_all]
theorem sliceApplied_rev {sl : Addr} {vl vu vs : Value} {n : Nat} {Q : Int × Int × Nat → Shared → Prop} (hs : s.heap.IsSliceOf sl vl vu vs) (pl : IsPart vl none) (pu : IsPart vu none) (ps : IsPart vs (some (-1)))
    (h : Q ((n : Int) - 1, -1, n) s) : wpAny (model prog w) A (Builtin.Slice.sliceApplied (.ref sl) (pure (n : Int))) Q E s := by
  obtain ⟨os, hos, hcs, hds⟩ := id hs
  unfold Builtin.Slice.sliceApplied Builtin.Slice.sliceFields
  refine wpAny_bind (wpAny_bind (wpAny_field hos hds (x := vl) rfl (wpAny_bind (wpAny_field hos hds (x := vu) rfl (wpAny_bind (wpAny_field hos hds (x := vs) rfl (wpAny_pure ?_)))))))
  refine wpAny_bind (slicePart_ ps ?_)
  show wpAny _ _ (if ((-1 : Int) == 0) = true then _ else _) _ _ s
  rw [if_neg (by decide)]
  refine wpAny_bind (slicePart_ pl (wpAny_bind (slicePart_ pu (wpAny_bind (wpAny_pure ?_)))))
  show wpAny _ _ (match Builtin.Slice.sliceAdjust none none (-1) (n : Int) with | (lo, hi) => pure (lo, (-1 : Int), Builtin.Slice.slicePlaces lo hi (-1))) _ _ s
  rw [adjust_rev n]
  show wpAny _ _ (pure ((n : Int) - 1, (-1 : Int), Builtin.Slice.slicePlaces ((n : Int) - 1) (-1) (-1))) _ _ s
  rw [places_rev]
  exact wpAny_pure h
theorem getItem_tuple_rev {t sl : Addr} {items : Array Value} {vl vu vs : Value} {Q : Value → Shared → Prop} (ht : IsTup s.heap t items) (hs : s.heap.IsSliceOf sl vl vu vs) (pl : IsPart vl none) (pu : IsPart vu none) (ps : IsPart vs (some (-1)))
    (h : Q (.ref s.heap.objs.size) { s with heap := s.heap.push { cls := .type "tuple", data := .seq items.toList.reverse.toArray } })
    (hsz : items.size ≤ sizeLine) : wpAny (model prog w) A (getItem (.ref t) (.ref sl)) Q E s := by
  have htake : sizeOk (.seq items.toList.reverse.toArray) := by
    show items.toList.reverse.toArray.size ≤ sizeLine
    rw [List.size_toArray, List.length_reverse, Array.length_toList]
    omega
  obtain ⟨os, hos, hcs, hds⟩ := id hs
  have hTs : s.TypeIs (.ref sl) "slice" := ⟨os, hos, hcs⟩
  unfold getItem
  try with_reducible refine wpAny_holding ?_
  first | refine wpAny_bind (wpAny_pure ?_) | skip
  refine wpAny_bind (wpAny_sequenceKey ht.typeIs (by decide) ?_)
  refine wpAny_bind (wpAny_callSpecial?_slot (name := Str.ofString "__getitem__") ht.typeIs PyProof.Rows.slot_tuple_getitem
    (wpAny_call_entry PyProof.Rows.slot_tuple_getitem ht.typeIs entry_tuple_getitem ?_ (args_tuple_getitem _ _)))
  show wpAny _ _ (Builtin.Tuple.tupleItemsOf (.ref t) >>= _) _ _ s
  refine wpAny_bind (tupleItemsOf_ ht ?_)
  refine wpAny_bind (wpAny_typeOf hTs ?_)
  rw [if_pos (by decide)]
  refine wpAny_bind (sliceApplied_rev hs pl pu ps ?_)
  show wpAny _ _ (if (((items.size : Int) - 1) == 0 && (-1 : Int) == 1 && items.size == items.size) = true then _ else _) _ _ s
  rw [if_neg (by simp), pick_rev]
  first
    | exact wpAny_bind (m := Builtin.Tuple.tupleExact _) (wpAny_newObj_type (wpAny_pure ⟨_, rfl, wpAny_pure h⟩) htake)
    | exact wpAny_bind (m := Builtin.Tuple.tupleExact _) (wpAny_newObj_type (wpAny_bind (wpAny_pure (wpAny_pure ⟨_, rfl, wpAny_pure h⟩))) htake)
    | exact wpAny_bind (wpAny_bind (m := Builtin.Tuple.tupleExact _) (wpAny_newObj_type (wpAny_pure (wpAny_pure ⟨_, rfl, wpAny_pure h⟩)) htake))
    | exact wpAny_bind (wpAny_bind (m := Builtin.Tuple.tupleExact _) (wpAny_newObj_type (wpAny_pure ⟨_, rfl, wpAny_pure h⟩) htake))
end
end HT
namespace Tf
open PySem PySem.Spec PyProof.Rows L2 LamX
def tRevT (K : PySem.W.Frag) (te : TE) : TE := fun σ H Q => te σ H fun x H1 => ∃ a xs, x = .ref a ∧ SqT K H1 a xs ∧ ∀ p, H1 p = none → Q (.ref p) (upd H1 p (.tup xs.reverse))
theorem pe_revT {X : Cx} {e : Expr} {te : TE} {k : Nat} {p1 p2 p3 pos : Pos} (he : PE X e te) : PE X (.Subscript e (.Slice none none (some (.UnaryOp .USub (.Constant (.int 1) k p1) p2)) p3) pos) (tRevT X.K te) := by
  refine ⟨fun pins s σ H Q I h => ?_⟩
  refine Subscript_ (thn (he.run pins s σ H _ I h) fun v s1 ⟨x, H1, I1, r1, q1⟩ => ?_)
  obtain ⟨a, xs, ex, hx, q⟩ := q1
  subst ex
  cases r1
  have hst : PO X (some (.UnaryOp .USub (.Constant (.int 1) k p1) p2)) (tPart (tUn (rU fun i => .int (-i)) (tC (.int 1)))) := po_some (pe_un un_neg pe_int)
  refine wpAny_Slice (thn (po_none.run pins s1 σ H1 (fun o H2 => o = none ∧ H2 = H1) I1 ⟨rfl, rfl⟩) fun vl s2 ⟨l, H2, I2, pl, el, e2⟩ => ?_)
  subst el e2
  refine thn (po_none.run pins s2 σ H2 (fun o H3 => o = none ∧ H3 = H2) I2 ⟨rfl, rfl⟩) fun vu s3 ⟨u, H3, I3, pu, eu, e3⟩ => ?_
  subst eu e3
  refine thn (hst.run pins s3 σ H3 (fun o H4 => o = some (-1) ∧ H4 = H3) I3 ⟨1, rfl, -1, rfl, rfl, rfl⟩) fun vs s4 ⟨o, H4, I4, ps, eo, e4⟩ => ?_
  subst eo e4
  have I5 : Inv X pins σ H4 { s4 with heap := s4.heap.push { cls := .type "slice", data := .fields #[vl, vu, vs] } } := I4.kept (t' := s4.toks) fun b ob q => Heap.get?_push_of_some _ q
  obtain ⟨its, r, ht, hz⟩ := I5.tuple hx
  have hlen := r.length
  show wpAny (model X.prog X.w) X.A (subscriptTail e (.Slice none none (some (.UnaryOp .USub (.Constant (.int 1) k p1) p2)) p3) (.ref a) (.ref s4.heap.objs.size)) (EP X pins σ Q) X.xe { s4 with heap := s4.heap.push { cls := .type "slice", data := .fields #[vl, vu, vs] } }
  refine tail_any (ops := [.ref a, .ref s4.heap.objs.size]) ht.typeIs (PyProof.Rows.slot_tuple_getitem.lookup) ?_ (by with_unfolding_all rfl)
  refine HT.getItem_tuple_rev ht (Heap.IsSliceOf.new _ vl vu vs) pl pu ps ?_ (by rw [List.size_toArray]; omega)
  refine ⟨.ref _, _, I5.laid (t' := s4.toks) (o := .tup xs.reverse) (fun b ob q => Heap.get?_push_of_some _ q) (Nat.le_refl _) ?_, rfl, q _ (I5.hok.fresh (Nat.le_refl _))⟩
  exact ⟨by rw [List.length_reverse]; exact hz, _, r.reverse, IsTup.new _ _⟩
end Tf

set_option Elab.async false
set_option linter.all false
set_option maxRecDepth 100000
set_option maxHeartbeats 2000000
/-! data that are bent: texts and tuples of such -/
namespace Tf
open PySem PySem.Spec PyProof.Rows L2
mutual
/-- texts of plain signs, short, and tuples of such -/
def bt : PyData → Bool
  | .str z => decide (z.length ≤ 400) && z.cps.toList.all fun c => decide (c < 128) && !decide (c = 10)
  | .tuple ds => btL ds
  | .none => true
  | .bool _ => true
  | .int i => decide (i.natAbs < 2 ^ 1000)
  | _ => false
def btL : List PyData → Bool
  | [] => true
  | d :: ds => bt d && btL ds
end
mutual
theorem bt_plain : ∀ (d : PyData), bt d = true → d.hasDict = false ∧ noList d = true ∧ d.canLay0 = true
  | .str z, h => by
    unfold bt at h
    rw [Bool.and_eq_true, List.all_eq_true] at h
    refine ⟨rfl, rfl, ?_⟩
    show PyData.strOk z = true
    unfold PyData.strOk
    rw [← Array.all_toList]
    refine List.all_eq_true.mpr fun c hc => decide_eq_true ?_
    have := h.2 c hc
    rw [Bool.and_eq_true, decide_eq_true_eq] at this
    omega
  | .tuple ds, h => by
    unfold bt at h
    obtain ⟨h1, h2, h3⟩ := btL_plain ds h
    refine ⟨?_, ?_, ?_⟩
    · simpa only [PyData.hasDict] using h1
    · simpa only [noList] using h2
    · simpa only [PyData.canLay0] using h3
  | .none, h => ⟨rfl, rfl, by simp only [PyData.canLay0]⟩
  | .bool _, h => ⟨rfl, rfl, by simp only [PyData.canLay0]⟩
  | .int _, h => ⟨rfl, rfl, by simp only [PyData.canLay0]⟩
  | .list _, h => by unfold bt at h; cases h
  | .dict _, h => by unfold bt at h; cases h
theorem btL_plain : ∀ (ds : List PyData), btL ds = true → PyData.hasDictAll ds = false ∧ noListL ds = true ∧ PyData.canLayAll0 ds = true
  | [], _ => ⟨rfl, rfl, rfl⟩
  | d :: ds, h => by
    unfold btL at h
    rw [Bool.and_eq_true] at h
    obtain ⟨h1, h2, h3⟩ := bt_plain d h.1
    obtain ⟨g1, g2, g3⟩ := btL_plain ds h.2
    refine ⟨?_, ?_, ?_⟩
    · simp only [PyData.hasDictAll, h1, g1, Bool.or_self]
    · simp only [noListL, h2, g2, Bool.and_self]
    · simp only [PyData.canLayAll0, h3, g3, Bool.and_self]
end
theorem bt_shaped {d : PyData} (h : bt d = true) (hd : d.depth ≤ 60) : SeqAt.shaped d = true := by
  unfold SeqAt.shaped
  rw [(bt_plain d h).2.2, decide_eq_true (by omega)]
  rfl
mutual
theorem dp_of {K : PySem.W.Frag} {z0 : Addr} {H : Hp} : ∀ (d : PyData) {x : V}, bt d = true → Dat K z0 H d x → Dp K H x d
  | .str z, x, _, h => by unfold Dat at h; rw [h.1]; exact .str _
  | .tuple ds, x, b, h => by
    unfold Dat at h
    unfold bt at b
    obtain ⟨a, xs, rfl, h1, h2⟩ := h
    exact .tup h1 (dpL_of ds b h2)
  | .none, x, _, h => by unfold Dat at h; subst h; exact .non
  | .bool _, x, _, h => by unfold Dat at h; subst h; exact .bl _
  | .int _, x, _, h => by unfold Dat at h; rw [h.1]; exact .int _
  | .list _, _, h, _ => by unfold bt at h; cases h
  | .dict _, _, h, _ => by unfold bt at h; cases h
theorem dpL_of {K : PySem.W.Frag} {z0 : Addr} {H : Hp} : ∀ (ds : List PyData) {xs : List V}, btL ds = true → DatL K z0 H ds xs → DpAll K H xs ds
  | [], xs, _, h => by unfold DatL at h; subst h; exact .nil
  | d :: ds, xs, b, h => by
    unfold DatL at h
    unfold btL at b
    rw [Bool.and_eq_true] at b
    obtain ⟨x, r, rfl, h1, h2⟩ := h
    exact .cons (dp_of d b.1 h1) (dpL_of ds b.2 h2)
end
theorem dat_but {K : PySem.W.Frag} {H H' : Hp} {a : Addr} {c : Int} (e : But a H H') (P : PotAt H a c) {d : PyData} {x : V} (h : Dat K a H d x) : Dat K a H' d x := by
  obtain ⟨own, sd, n, hA, _⟩ := P
  refine dat_ext (fun b o q _ r => ?_) d h
  rcases r with r | r
  · exact e b o r q
  · by_cases z : b = a
    · subst z
      rw [hA] at q
      exact absurd (Option.some.inj q).symm (r _).1
    · exact e b o z q
theorem datL_but {K : PySem.W.Frag} {H H' : Hp} {a : Addr} {c : Int} (e : But a H H') (P : PotAt H a c) {ds : List PyData} {xs : List V} (h : DatL K a H ds xs) : DatL K a H' ds xs := by
  obtain ⟨own, sd, n, hA, _⟩ := P
  refine datL_ext (fun b o q _ r => ?_) ds h
  rcases r with r | r
  · exact e b o r q
  · by_cases z : b = a
    · subst z
      rw [hA] at q
      exact absurd (Option.some.inj q).symm (r _).1
    · exact e b o z q
theorem datL_same {K : PySem.W.Frag} {H H' : Hp} {a : Addr} (e : Same H H') {ds : List PyData} {xs : List V} (h : DatL K a H ds xs) : DatL K a H' ds xs := datL_ext (fun b o q _ _ => e b o q) ds h
theorem dat_tupI {K : PySem.W.Frag} {z0 : Addr} {H : Hp} {ds : List PyData} {x : V} (h : Dat K z0 H (.tuple ds) x) : ∃ t xs, x = .ref t ∧ SqT K H t xs ∧ DatL K z0 H ds xs := by
  unfold Dat at h
  exact h
/-! ### lists of data -/
section
variable {K : PySem.W.Frag} {a : Addr} {H : Hp}
theorem datL_app : ∀ {ds es : List PyData} {xs ys : List V}, DatL K a H ds xs → DatL K a H es ys → DatL K a H (ds ++ es) (xs ++ ys)
  | [], es, xs, ys, h, g => by unfold DatL at h; subst h; exact g
  | d :: ds, es, xs, ys, h, g => by
    unfold DatL at h
    obtain ⟨x, r, rfl, h1, h2⟩ := h
    exact datL_cons h1 (datL_app h2 g)
theorem datL_take : ∀ (n : Nat) {ds : List PyData} {xs : List V}, DatL K a H ds xs → DatL K a H (ds.take n) (xs.take n)
  | 0, _, _, _ => by simpa using datL_nil
  | n + 1, [], xs, h => by unfold DatL at h; subst h; simpa using datL_nil
  | n + 1, d :: ds, xs, h => by
    unfold DatL at h
    obtain ⟨x, r, rfl, h1, h2⟩ := h
    exact datL_cons h1 (datL_take n h2)
theorem datL_drop : ∀ (n : Nat) {ds : List PyData} {xs : List V}, DatL K a H ds xs → DatL K a H (ds.drop n) (xs.drop n)
  | 0, _, _, h => by simpa using h
  | n + 1, [], xs, h => by unfold DatL at h; subst h; simpa using datL_nil
  | n + 1, d :: ds, xs, h => by
    unfold DatL at h
    obtain ⟨x, r, rfl, h1, h2⟩ := h
    exact datL_drop n h2
theorem datL_rev : ∀ {ds : List PyData} {xs : List V}, DatL K a H ds xs → DatL K a H ds.reverse xs.reverse
  | [], xs, h => by unfold DatL at h; subst h; simpa using datL_nil
  | d :: ds, xs, h => by
    unfold DatL at h
    obtain ⟨x, r, rfl, h1, h2⟩ := h
    rw [List.reverse_cons, List.reverse_cons]
    exact datL_app (datL_rev h2) (datL_cons h1 datL_nil)
theorem datL_at : ∀ {ds : List PyData} {xs : List V} {i : Nat}, DatL K a H ds xs → i < xs.length → ∃ d x, ds[i]? = some d ∧ xs[i]? = some x ∧ Dat K a H d x
  | [], xs, i, h, hi => by unfold DatL at h; subst h; simp at hi
  | d :: ds, xs, 0, h, hi => by
    unfold DatL at h
    obtain ⟨x, r, rfl, h1, h2⟩ := h
    exact ⟨d, x, rfl, rfl, h1⟩
  | d :: ds, xs, i + 1, h, hi => by
    unfold DatL at h
    obtain ⟨x, r, rfl, h1, h2⟩ := h
    obtain ⟨d', x', e1, e2, e3⟩ := datL_at (i := i) h2 (by simpa using hi)
    exact ⟨d', x', e1, e2, e3⟩
end
theorem btL_mem : ∀ {ds : List PyData} {d : PyData}, btL ds = true → d ∈ ds → bt d = true
  | e :: ds, d, h, hm => by
    unfold btL at h
    rw [Bool.and_eq_true] at h
    rcases List.mem_cons.mp hm with rfl | hm
    · exact h.1
    · exact btL_mem h.2 hm
theorem capL_app : ∀ (ds es : List PyData), capL (ds ++ es) = capL ds + capL es
  | [], es => by simp [capL]
  | d :: ds, es => by simp only [List.cons_append, capL, capL_app ds es]; omega
theorem capL_rev : ∀ (ds : List PyData), capL ds.reverse = capL ds
  | [] => rfl
  | d :: ds => by rw [List.reverse_cons, capL_app, capL_rev ds]; simp only [capL]; omega
theorem capL_part (n : Nat) (ds : List PyData) : capL (ds.take n) + capL (ds.drop n) = capL ds := by
  rw [← capL_app, List.take_append_drop]
theorem capL_at {ds : List PyData} {i : Nat} {d : PyData} (h : ds[i]? = some d) : capL (ds.take i) + (cap d + 2) + capL (ds.drop (i + 1)) = capL ds := by
  have hi := (List.getElem?_eq_some_iff.mp h).1
  have e := capL_part i ds
  rw [List.drop_eq_getElem_cons hi] at e
  have : ds[i] = d := (List.getElem?_eq_some_iff.mp h).2
  rw [this] at e
  simp only [capL] at e
  omega
theorem depthL_app : ∀ (ds es : List PyData), PyData.depthAll (ds ++ es) = max (PyData.depthAll ds) (PyData.depthAll es)
  | [], es => by simp [PyData.depthAll]
  | d :: ds, es => by simp only [List.cons_append, PyData.depthAll, depthL_app ds es]; omega
theorem depthL_rev : ∀ (ds : List PyData), PyData.depthAll ds.reverse = PyData.depthAll ds
  | [] => rfl
  | d :: ds => by rw [List.reverse_cons, depthL_app, depthL_rev ds]; simp only [PyData.depthAll]; omega
theorem depthL_take (n : Nat) (ds : List PyData) : PyData.depthAll (ds.take n) ≤ PyData.depthAll ds := by
  have := depthL_app (ds.take n) (ds.drop n)
  rw [List.take_append_drop] at this
  omega
theorem depthL_drop (n : Nat) (ds : List PyData) : PyData.depthAll (ds.drop n) ≤ PyData.depthAll ds := by
  have := depthL_app (ds.take n) (ds.drop n)
  rw [List.take_append_drop] at this
  omega
theorem depthL_mem {ds : List PyData} {d : PyData} (h : d ∈ ds) : d.depth ≤ PyData.depthAll ds := PyData.depth_le_depthAll ds d h
theorem hasDictL_app : ∀ (ds es : List PyData), PyData.hasDictAll (ds ++ es) = (PyData.hasDictAll ds || PyData.hasDictAll es)
  | [], es => by simp [PyData.hasDictAll]
  | d :: ds, es => by simp only [List.cons_append, PyData.hasDictAll, hasDictL_app ds es, Bool.or_assoc]
theorem noListL_app : ∀ (ds es : List PyData), noListL (ds ++ es) = (noListL ds && noListL es)
  | [], es => by simp [noListL]
  | d :: ds, es => by simp only [List.cons_append, noListL, noListL_app ds es, Bool.and_assoc]
theorem btL_app : ∀ (ds es : List PyData), btL (ds ++ es) = (btL ds && btL es)
  | [], es => by simp [btL]
  | d :: ds, es => by simp only [List.cons_append, btL, btL_app ds es, Bool.and_assoc]
theorem btL_part {ds : List PyData} (h : btL ds = true) (n : Nat) : btL (ds.take n) = true ∧ btL (ds.drop n) = true := by
  rw [← List.take_append_drop n ds, btL_app, Bool.and_eq_true] at h
  exact h
theorem btL_rev : ∀ {ds : List PyData}, btL ds = true → btL ds.reverse = true
  | [], _ => rfl
  | d :: ds, h => by
    unfold btL at h
    rw [Bool.and_eq_true] at h
    rw [List.reverse_cons, btL_app, btL_rev h.2]
    simp [btL, h.1]
theorem cap_pos (d : PyData) : 2 ≤ cap d := by cases d <;> unfold cap <;> omega
theorem capL_len : ∀ (ds : List PyData), 4 * ds.length ≤ capL ds
  | [] => by simp [capL]
  | d :: ds => by
    have := cap_pos d
    have := capL_len ds
    simp only [List.length_cons, capL]
    omega
/-! ### tuples put together and cut, whichever object it is -/
theorem r_catA {K : PySem.W.Frag} {H : Hp} {Q : VK} {p q : Addr} {xs ys : List V} (h1 : SqT K H p xs) (h2 : SqT K H q ys) (hz : xs.length + ys.length ≤ 1000000) (h : ∀ r H', Same H H' → SqT K H' r (xs ++ ys) → Q (.ref r) H') : rCatA K (.ref p) (.ref q) H Q := by
  refine ⟨p, q, xs, ys, rfl, rfl, h1, h2, le_line hz, fun e => ?_, fun _ e => ?_, fun _ _ r hr => h r _ (same_new hr) (SqT.of upd_same)⟩
  · subst e
    exact h _ _ (Same.refl _) h2
  · subst e
    rw [List.append_nil] at h
    exact h _ _ (Same.refl _) h1
theorem r_slA {K : PySem.W.Frag} {H : Hp} {Q : VK} {p : Addr} {xs : List V} {lo hi : Option Int} (h1 : SqT K H p xs) (h : ∀ r H', Same H H' → SqT K H' r (cutV xs lo hi) → Q (.ref r) H') : rSlA K (.ref p) lo hi H Q := by
  refine ⟨p, xs, rfl, h1, fun e => ?_, fun _ r hr => h r _ (same_new hr) (SqT.of upd_same)⟩
  have ec : cutV xs lo hi = xs := by
    unfold cutV
    rw [e.1, e.2]
    simp
  rw [ec] at h
  exact h _ _ (Same.refl _) h1
theorem cutV_to {xs : List V} {n : Nat} : cutV xs none (some (n : Int)) = xs.take n := by
  unfold cutV
  rw [HT.sIx_none, HT.sIx_nat]
  simp only [List.drop_zero, Nat.sub_zero]
  by_cases h : n ≤ xs.length
  · rw [Nat.min_eq_left h]
  · rw [Nat.min_eq_right (by omega), List.take_of_length_le (Nat.le_refl _), List.take_of_length_le (by omega)]
theorem cutV_from {xs : List V} {n : Nat} (h : n ≤ xs.length) : cutV xs (some (n : Int)) none = xs.drop n := by
  unfold cutV
  rw [HT.sIx_none, HT.sIx_nat, Nat.min_eq_left h]
  exact List.take_of_length_le (by rw [List.length_drop]; omega)
theorem cutV_dl {xs : List V} : cutV xs none (some (-1)) = xs.take (xs.length - 1) := by
  unfold cutV
  rw [HT.sIx_none]
  have e : HT.sIx xs.length xs.length (some (-1)) = xs.length - 1 := by
    show (if (-1 : Int) < 0 then ((-1 : Int) + (xs.length : Int)).toNat else min (-1 : Int).toNat xs.length) = xs.length - 1
    rw [if_pos (by decide)]
    omega
  rw [e]
  simp
theorem cutV_lst {xs : List V} : cutV xs (some (-1)) none = xs.drop (xs.length - 1) := by
  unfold cutV
  rw [HT.sIx_none]
  have e : HT.sIx xs.length 0 (some (-1)) = xs.length - 1 := by
    show (if (-1 : Int) < 0 then ((-1 : Int) + (xs.length : Int)).toNat else min (-1 : Int).toNat xs.length) = xs.length - 1
    rw [if_pos (by decide)]
    omega
  rw [e]
  exact List.take_of_length_le (by rw [List.length_drop]; omega)
/-! ### a def that is there: other promises -/
theorem Ok.imp {P : Program} {w : World} {K : PySem.W.Frag} {mg : Str → Option Value} {base : Heap} {CX : CXT} {k : Nat} {x : Str} {st : Stmt} {ps : List Str} {sp sp' : Sp} (o : Ok P w K mg base CX k x st ps sp) (h : ∀ vs H Q E, sp' vs H Q E → sp vs H Q E) : Ok P w K mg base CX k x st ps sp' := by
  obtain ⟨f, fd, g, D, b, F⟩ := o.ex
  exact ⟨⟨f, fd, g, D, b, F.imp h⟩⟩
theorem Ok.mono {P : Program} {w : World} {K : PySem.W.Frag} {mg : Str → Option Value} {base : Heap} {CX : CXT} {j k : Nat} {x : Str} {st : Stmt} {ps : List Str} {sp : Sp} (o : Ok P w K mg base CX j x st ps sp) (h : j ≤ k) : Ok P w K mg base CX k x st ps sp := by
  obtain ⟨f, fd, g, D, b, F⟩ := o.ex
  exact ⟨⟨f, fd, g, D, b, F.mono h⟩⟩
theorem Ok.or {P : Program} {w : World} {K : PySem.W.Frag} {mg : Str → Option Value} {base : Heap} {CX : CXT} {k : Nat} {x : Str} {st : Stmt} {ps : List Str} {sp sp' : Sp} (o : Ok P w K mg base CX k x st ps sp) (o' : Ok P w K mg base CX k x st ps sp') : Ok P w K mg base CX k x st ps (fun vs H Q E => sp vs H Q E ∨ sp' vs H Q E) := by
  obtain ⟨f, fd, g, D, b, F⟩ := o.ex
  have F' := o'.at g D
  refine ⟨⟨f, fd, g, D, b, ⟨fun vs H Q E h => h.elim (F.len vs H Q E) (F'.len vs H Q E), fun A outer s H args us vs Q E hr e0 bt r h => h.elim (F.run A outer s H args us vs Q E hr e0 bt r) (F'.run A outer s H args us vs Q E hr e0 bt r)⟩⟩⟩
/-! ### lists of small data, made piece by piece -/
section
variable {K : PySem.W.Frag} {a : Addr} {n m : Nat} {H0 B G G' : Hp} {c c' : Int} {L : List V} {x y : V} {d : PyData}
theorem sml_same (e : Same G G') (h : Sml K a G n m d x) : Sml K a G' n m d x := ⟨dat_same e h.1, h.2⟩
theorem sml_but (e : But a G G') (P : PotAt G a c) (h : Sml K a G n m d x) : Sml K a G' n m d x := ⟨dat_but e P h.1, h.2⟩
theorem sml_mono {n' m' : Nat} (h : Sml K a G n m d x) (hn : n ≤ n') (hm : m ≤ m') : Sml K a G n' m' d x := ⟨h.1, Nat.le_trans h.2.1 hm, Nat.le_trans h.2.2.1 hn, h.2.2.2⟩
/-- H0 where it began, G where it is, c how many draws, L what has been made -/
structure St (K : PySem.W.Frag) (a : Addr) (n m : Nat) (H0 : Hp) (c : Int) (L : List V) (G : Hp) : Prop where
  b : But a H0 G
  p : PotAt G a c
  g : ∀ x ∈ L, ∃ d, Sml K a G n m d x
theorem St.start (b : But a H0 G) (p : PotAt G a c) : St K a n m H0 c [] G := ⟨b, p, fun x h => by cases h⟩
theorem St.same (s : St K a n m H0 c L G) (e : Same G G') : St K a n m H0 c L G' := ⟨s.b.trans (But.of e), s.p.same e, fun x h => let ⟨d, z⟩ := s.g x h; ⟨d, sml_same e z⟩⟩
theorem St.but (s : St K a n m H0 c L G) (e : But a G G') (P : PotAt G' a c') : St K a n m H0 c' L G' := ⟨s.b.trans e, P, fun x h => let ⟨d, z⟩ := s.g x h; ⟨d, sml_but e s.p z⟩⟩
theorem St.add (s : St K a n m H0 c L G) (h : Sml K a G n m d y) : St K a n m H0 c (L ++ [y]) G := ⟨s.b, s.p, fun x hx => (List.mem_append.mp hx).elim (s.g x) fun z => by rw [List.mem_singleton.mp z]; exact ⟨d, h⟩⟩
theorem St.clear (s : St K a n m H0 c L G) : St K a n m H0 c [] G := ⟨s.b, s.p, fun x h => by cases h⟩
theorem dat_pair {t : Addr} {h r : List Nat} (D : Dat K a G (.tuple [.str (S h), .str (S r)]) (.ref t)) : SqT K G t [.str (S h), .str (S r)] := by
  obtain ⟨t', xs, e, hT, hL⟩ := dat_tupI D
  obtain rfl := V.ref.inj e
  obtain ⟨x1, x2, rfl, h1, h2⟩ := datL_two hL
  unfold Dat at h1 h2
  rw [h1.1, h2.1] at hT
  exact hT
theorem tup_neP {H : Hp} {t a : Addr} {xs : List V} {c : Int} (h : H t = some (.tup xs)) (p : PotAt H a c) : t ≠ a := by
  obtain ⟨own, sd, n, h1, _⟩ := p
  intro z
  subst z
  rw [h] at h1
  cases h1
theorem cap_S (l : List Nat) : cap (.str (S l)) = 10 * l.length + 2 := by unfold cap; rw [S_len]
theorem bt_S {l : List Nat} (h : ∀ c ∈ l, c < 128 ∧ c ≠ 10) (hl : l.length ≤ 400) : bt (.str (S l)) = true := by
  unfold bt
  rw [S_len, S_codes, Bool.and_eq_true, decide_eq_true_eq, List.all_eq_true]
  exact ⟨hl, fun c hc => by have := h c hc; rw [Bool.and_eq_true, decide_eq_true_eq, Bool.not_eq_true', decide_eq_false_iff_not]; exact this⟩
theorem wd_asc {l : List Nat} (h : Wd l) : ∀ c ∈ l, c < 128 ∧ c ≠ 10 := fun c hc => by rcases h c hc with rfl | rfl | rfl <;> decide
theorem dat_W {l : List Nat} (h : ∀ c ∈ l, c < 128) : Dat K a G (.str (S l)) (.str (S l)) := dat_S fun c hc => Nat.lt_trans (h c hc) (by decide)
theorem asc_rep {n c : Nat} (h : c < 128) : ∀ x ∈ List.replicate n c, x < 128 := fun x hx => by rw [(List.mem_replicate.mp hx).2]; exact h
end
theorem r_orT {K : PySem.W.Frag} {ta tb : TE} {σ : L2.St} {H : Hp} {Q : VK} (h : ta σ H fun x H1 => ∃ k, TruV K x H1 k ∧ if k = true then Q x H1 else tb σ H1 Q) : tOrT K ta tb σ H Q := h
theorem ofS_pts (t : String) : okPts (Str.ofString t) := by
  unfold okPts
  intro c hc
  have h : c ∈ t.toList.map Char.toNat := by
    rw [PyProof.Rows.signs_ofString] at hc
    exact hc
  obtain ⟨ch, _, rfl⟩ := List.mem_map.mp h
  have h2 : ch.toNat < 1114112 := by
    have := ch.valid
    unfold UInt32.isValidChar Nat.isValidChar at this
    show ch.val.toNat < 1114112
    omega
  exact Nat.lt_trans h2 (by decide)
theorem dat_txt {K : PySem.W.Frag} {a : Addr} {G : Hp} (t : String) : Dat K a G (.str (Str.ofString t)) (.str (Str.ofString t)) := by
  unfold Dat
  exact ⟨rfl, ofS_pts t⟩
theorem small_txt {i : Int} (h0 : 0 ≤ i) (h1 : i < 1000000) : cap (.str (Str.ofString (toString i))) ≤ 1000 := by
  have e := int_text_length_le (k := 20) (by decide) (log2_le (n := i.natAbs) (k := 20) (by omega) (by decide))
  unfold cap
  rw [PySem.ofString_length]
  omega
theorem big_log {i : Int} (h : i.natAbs < 2 ^ 1000) : i.natAbs.log2 < 1920 := Nat.lt_trans (log2_le h (by decide)) (by decide)
theorem big_log1 {i : Int} {k : Nat} (h : k < 2 ^ 1000) (h2 : i.natAbs ≤ k + 1) : i.natAbs.log2 < 1920 := by
  have e : (2 : Nat) ^ 1001 = 2 * 2 ^ 1000 := by decide +kernel
  have l : i.natAbs < 2 ^ 1001 := by omega
  exact Nat.lt_trans (log2_le l (by decide)) (by decide)
end Tf

set_option linter.all false
set_option maxRecDepth 100000
set_option maxHeartbeats 2000000
/-! mathematics of distances and twins -/
namespace Tf
open PySem L2
/-- places of all beginnings -/
def pls (l : List Nat) : List Int := (List.range (l.length + 1)).map fun i => pl (l.take i)
theorem pls_len (l : List Nat) : (pls l).length = l.length + 1 := by simp [pls]
theorem pls_last (l : List Nat) : atI ((pls l).map V.int) (-1) = some (.int (pl l)) := by
  have : pls l = (List.range l.length).map (fun i => pl (l.take i)) ++ [pl l] := by
    unfold pls
    rw [List.range_succ, List.map_append]
    simp
  rw [this, List.map_append]
  exact atI_last _ _
theorem pls_snoc (l : List Nat) (c : Nat) : pls (l ++ [c]) = pls l ++ [pst (pl l) c] := by
  unfold pls
  rw [List.length_append, List.length_singleton, List.range_succ (n := l.length + 1), List.map_append]
  congr 1
  · refine List.map_congr_left fun i hi => ?_
    have := List.mem_range.mp hi
    rw [List.take_append_of_le_length (by omega)]
  · rw [List.map_singleton, ← pl_snoc, List.take_of_length_le (by simp)]
theorem nu_min {p m : Int} (hm : m ∈ [(nu p).1, (nu p).2]) (hle : ∀ y, y ∈ [(nu p).1, (nu p).2] → m ≤ y) : m = p := by
  unfold nu at *
  split at hm <;> simp_all <;> omega
/-- the last letter, as a text -/
def lst1 (l : List Nat) : List Nat := l.drop (l.length - 1)
theorem lst1_snoc (z : List Nat) (c : Nat) : lst1 (z ++ [c]) = [c] := by
  unfold lst1
  rw [List.length_append, List.length_singleton, Nat.add_sub_cancel, List.drop_left]
theorem last_snoc {a : List Nat} {u : Nat} (h : a.getLast? = some u) : ∃ z, a = z ++ [u] := by
  have : a ≠ [] := fun z => by rw [z] at h; cases h
  rw [List.getLast?_eq_some_getLast this] at h
  have h := Option.some.inj h
  rw [← h]
  exact ⟨_, (List.dropLast_concat_getLast this).symm⟩
theorem lst1_dec (a : List Nat) (u : Nat) : decide (lst1 a = [u]) = decide (a.getLast? = some u) := by
  rw [decide_eq_decide]
  by_cases h : 0 < a.length
  · obtain ⟨z, c, rfl⟩ := snoc_of h
    rw [lst1_snoc, List.getLast?_concat]
    simp
  · have : a = [] := List.eq_nil_of_length_eq_zero (by omega)
    subst this
    simp [lst1]
theorem cut_lst (l : List Nat) : cutS (S l) (some (-1)) none = S (lst1 l) := by
  rw [cut_S, HT.sIx_none]
  have e : HT.sIx l.length 0 (some (-1)) = l.length - 1 := by
    show (if (-1 : Int) < 0 then ((-1 : Int) + (l.length : Int)).toNat else min (-1 : Int).toNat l.length) = l.length - 1
    rw [if_pos (by decide)]
    omega
  rw [e]
  unfold lst1
  rw [List.take_of_length_le]
  simp
def TwAt (H : Hp) (x : V) : Option (List Nat × List Nat) → Prop
  | none => x = .non
  | some y => ∃ u, x = .ref u ∧ H u = some (.tup [.str (S y.1), .str (S y.2)])
theorem TwAt.same {H H' : Hp} {x : V} {o : Option (List Nat × List Nat)} (e : Same H H') (h : TwAt H x o) : TwAt H' x o := by
  cases o with
  | none => exact h
  | some y =>
    obtain ⟨u, h1, h2⟩ := h
    exact ⟨u, h1, e _ _ h2⟩
/-- min of a tuple of ints -/
theorem min_intTuple {prog : Program} {w : World} {A : Around} {s : Shared} {E : Value → Shared → Prop} {l : Addr} {xs : Array (Int × Tok)} {Q : Value → Shared → Prop} (hh : A.handled = none) (hl : s.heap.IsTuple l (intItems xs)) (hne : 0 < xs.size)
    (h : ∀ v h' tk, (intItems xs)[argBest (fun i j => decide (numAt xs i < numAt xs j)) (xs.size - 1)]? = some v → (∀ b o, s.heap.get? b = some o → h'.get? b = some o) → Q v { s with heap := h', toks := tk }) :
    wpAny (model prog w) A (call (.builtin "min") [.ref l]) Q E s := by
  refine call_min_walk (wpAny_pyIter_tuple hl ?_)
  have hls : l < s.heap.objs.size := by
    obtain ⟨o, ho, _⟩ := hl
    exact Heap.lt_size ho
  refine ⟨_, [_, l], [_], _, _, _, _, rfl, Walks.tuple (A := A.in1) hh _ l (Nat.ne_of_lt hls) (intItems xs),
    ⟨⟨_, Heap.get?_push_size _ rfl, rfl, rfl⟩, hl.push _⟩, fun c hc => ?_, by simpa [intItems] using hne, CmpOf.ints_lt (numAt xs) (fun _ _ => intItems_at), fun v h' tk hP hk => ?_⟩
  · show c < (s.heap.push _).objs.size
    rw [Heap.size_push]
    rcases List.mem_cons.mp hc with rfl | hc
    · exact Nat.lt_succ_self _
    · rw [List.mem_singleton.mp hc]
      exact Nat.lt_succ_of_lt hls
  · exact h v h' tk (by simpa [intItems] using hP) fun b o e => hk b o (fun z => absurd (List.mem_singleton.mp z) (Nat.ne_of_lt (Heap.lt_size e))) (Heap.get?_push_of_some _ e)
def rMinT (K : PySem.W.Frag) : List V → Hp → VK → Prop := fun vs H Q => ∃ (a : Addr) (ns : List Int), vs = [V.ref a] ∧ SqT K H a (ns.map V.int) ∧ 0 < ns.length ∧ ∀ m, m ∈ ns → (∀ y, y ∈ ns → m ≤ y) → Q (.int m) H
theorem cr_minT {X : Cx} (hc : X.calm = true) : CallR X (.builtin "min") (rMinT X.K) := by
  intro pins s σ H vs us Q I r h
  obtain ⟨a, ns, rfl, hs, hne, q⟩ := h
  obtain ⟨its, rv, hl, _⟩ := I.tuple hs
  rw [Vals.ref1 r]
  have hi := rv.ints
  obtain ⟨xs, e⟩ := hi.allInts.items
  have hn : numsOf (intItems xs).toList = ns := by rw [← e]; exact hi.numsOf
  rw [nums_intItems] at hn
  subst hn
  have hl' : s.heap.IsTuple a its.toArray := hl
  rw [e] at hl'
  have hsz : 0 < xs.size := by simpa using hne
  refine min_intTuple (I.ok.hd hc) hl' hsz fun v h' tk hv hk => ?_
  obtain ⟨t, rfl⟩ := intItems_at hv
  obtain ⟨h1, h2⟩ := argBest_lt (numAt xs) (xs.size - 1)
  refine ⟨.int _, H, I.kept hk, ⟨_, rfl⟩, q _ ?_ fun a ha => ?_⟩
  · rw [numAt_eq]; exact PySem.getD_mem (by rw [List.length_map, Array.length_toList]; omega)
  · obtain ⟨j, hj, rfl⟩ := mem_getD ha
    rw [List.length_map, Array.length_toList] at hj
    rw [← numAt_eq]; exact h2 j (by omega)
theorem r_minT {K : PySem.W.Frag} {H : Hp} {Q : VK} {a : Addr} {ns : List Int} (hs : SqT K H a (ns.map V.int)) (h0 : 0 < ns.length) (q : ∀ m, m ∈ ns → (∀ y, y ∈ ns → m ≤ y) → Q (.int m) H) : rMinT K [.ref a] H Q := ⟨a, ns, rfl, hs, h0, q⟩
/-- the place of the first so many letters -/
def P (f : Nat → Nat) (n : Nat) : Int := pl (seg f 0 n)
theorem P_succ (f : Nat → Nat) (n : Nat) : P f (n + 1) = pst (P f n) (f n) := by
  unfold P
  rw [← pl_snoc]
  congr 1
  have h : seg f 0 n ++ seg f (0 + n) 1 = seg f 0 (n + 1) := seg_app
  rw [← h]
  congr 1
  simp [seg]
theorem P_zero (f : Nat → Nat) : P f 0 = 0 := rfl
theorem P_nn (f : Nat → Nat) (n : Nat) : 0 ≤ P f n := pl_nn _
theorem P_lt (f : Nat → Nat) (n : Nat) : P f n < 3 ^ n := by
  have := pl_lt (seg f 0 n)
  rwa [seg_len] at this
def ab (x : Int) : Int := if x < 0 then -x else x
/-- how far apart -/
def dst (f g : Nat → Nat) (n : Nat) : Int := ab (P f n - P g n)
theorem ix_ge (p : Int) (c : Nat) : 0 ≤ ((ix p c : Nat) : Int) := by omega
theorem dst_grow (f g : Nat → Nat) (n : Nat) (h : 1 < dst f g n) : 3 * dst f g n ≤ 2 * dst f g (n + 1) := by
  unfold dst at *
  rw [P_succ, P_succ]
  unfold pst
  have h1 := ix_le (P f n) (f n)
  have h2 := ix_le (P g n) (g n)
  generalize ix (P f n) (f n) = a at h1 ⊢
  generalize ix (P g n) (g n) = b at h2 ⊢
  unfold ab at *
  split at h <;> split <;> split <;> omega
theorem dst_mono (f g : Nat → Nat) (n : Nat) (h : 1 < dst f g n) : 1 < dst f g (n + 1) := by
  have := dst_grow f g n h
  omega
theorem dst_same {f g : Nat → Nat} {n : Nat} (h : ∀ i, i < n → f i = g i) : P f n = P g n := by
  unfold P
  congr 1
  exact seg_ext fun i hi => by rw [Nat.zero_add]; exact h i hi
def Fa (c : Nat) : Prop := c = 110 ∨ c = 102 ∨ c = 115
theorem ix_two {p : Int} {c : Nat} (hc : Fa c) (h : ix p c = 2) : (p % 2 = 0 ∧ c = 102) ∨ (p % 2 = 1 ∧ c = 115) := by
  unfold ix at h
  rcases (show p % 2 = 0 ∨ p % 2 = 1 by omega) with e | e
  · rw [if_pos e] at h
    rcases hc with rfl | rfl | rfl
    · exact absurd h (by decide)
    · exact .inl ⟨e, rfl⟩
    · exact absurd h (by decide)
  · rw [if_neg (by omega)] at h
    rcases hc with rfl | rfl | rfl
    · exact absurd h (by decide)
    · exact absurd h (by decide)
    · exact .inr ⟨e, rfl⟩
theorem ix_zero {p : Int} {c : Nat} (hc : Fa c) (h : ix p c = 0) : (p % 2 = 0 ∧ c = 115) ∨ (p % 2 = 1 ∧ c = 102) := by
  unfold ix at h
  rcases (show p % 2 = 0 ∨ p % 2 = 1 by omega) with e | e
  · rw [if_pos e] at h
    rcases hc with rfl | rfl | rfl
    · exact absurd h (by decide)
    · exact absurd h (by decide)
    · exact .inl ⟨e, rfl⟩
  · rw [if_neg (by omega)] at h
    rcases hc with rfl | rfl | rfl
    · exact absurd h (by decide)
    · exact .inr ⟨e, rfl⟩
    · exact absurd h (by decide)
/-- what keeps neighbours -/
theorem near_step {p : Int} {c d : Nat} (hc : Fa c) (hd : Fa d) (h : ab (pst p c - pst (p + 1) d) ≤ 1) : (p % 2 = 0 ∧ c = 102 ∧ d = 102) ∨ (p % 2 = 1 ∧ c = 115 ∧ d = 115) := by
  have h1 := ix_le p c
  have h2 := ix_le (p + 1) d
  have h3 : ix p c = 2 ∧ ix (p + 1) d = 0 := by
    unfold ab pst at h
    split at h <;> omega
  rcases ix_two hc h3.1 with ⟨a, b⟩ | ⟨a, b⟩ <;> rcases ix_zero hd h3.2 with ⟨a', b'⟩ | ⟨a', b'⟩
  · omega
  · exact .inl ⟨a, b, b'⟩
  · exact .inr ⟨a, b, b'⟩
  · omega
/-- neighbours that part in this round: who stands where -/
theorem part_step {p : Int} {c d : Nat} (hc : Fa c) (hd : Fa d) (ne : c ≠ d) (h : ab (pst p c - pst p d) ≤ 1) :
    (pst p d = pst p c + 1 ∨ pst p c = pst p d + 1) ∧ ∀ lo, (lo = pst p c ∨ lo = pst p d) → (pst p c = lo ∧ pst p d = lo + 1 ∨ pst p d = lo ∧ pst p c = lo + 1) →
      (lo % 2 = 0 ∧ c ≠ 102 ∧ d ≠ 102) ∨ (lo % 2 = 1 ∧ c ≠ 115 ∧ d ≠ 115) := by
  have vals : ∀ {c}, Fa c → (p % 2 = 0 ∧ (c = 115 ∧ ix p c = 0 ∨ c = 110 ∧ ix p c = 1 ∨ c = 102 ∧ ix p c = 2)) ∨ (p % 2 = 1 ∧ (c = 102 ∧ ix p c = 0 ∨ c = 110 ∧ ix p c = 1 ∨ c = 115 ∧ ix p c = 2)) := by
    intro c hc
    unfold ix
    rcases (show p % 2 = 0 ∨ p % 2 = 1 by omega) with e | e
    · rw [if_pos e]
      rcases hc with rfl | rfl | rfl <;> simp [e]
    · rw [if_neg (by omega)]
      rcases hc with rfl | rfl | rfl <;> simp [e]
  have v1 := vals hc
  have v2 := vals hd
  unfold ab pst at *
  generalize ix p c = i1 at *
  generalize ix p d = i2 at *
  refine ⟨?_, fun lo h3 h4 => ?_⟩
  · split at h <;> omega
  · split at h <;> omega
/-- the fate that keeps neighbours with this lower place -/
def kp (lo : Int) : Nat := if lo % 2 = 0 then 102 else 115
theorem kp_two (lo : Int) : kp lo = 102 ∨ kp lo = 115 := by unfold kp; split <;> simp
theorem kp_step (lo : Int) : ∃ lo', (∀ q, (q = lo ∨ q = lo + 1) → ∃ q', q' = pst q (kp lo) ∧ (q = lo → q' = lo') ∧ (q = lo + 1 → q' = lo' + 1)) ∧ kp lo' = kp lo := by
  rcases (show lo % 2 = 0 ∨ lo % 2 = 1 by omega) with e | e
  · refine ⟨3 * lo + 2, ?_, ?_⟩
    · rintro q (rfl | rfl)
      · exact ⟨_, rfl, fun _ => by unfold pst ix kp; simp [e], fun h => by omega⟩
      · have e' : ¬ (lo + 1) % 2 = 0 := by omega
        exact ⟨_, rfl, fun h => by omega, fun _ => by unfold pst ix kp; rw [if_pos e, if_neg e']; simp; omega⟩
    · unfold kp
      rw [if_pos e, if_pos (by omega)]
  · have e0 : ¬ lo % 2 = 0 := by omega
    refine ⟨3 * lo + 2, ?_, ?_⟩
    · rintro q (rfl | rfl)
      · exact ⟨_, rfl, fun _ => by unfold pst ix kp; rw [if_neg e0, if_neg e0]; simp, fun h => by omega⟩
      · have e' : (lo + 1) % 2 = 0 := by omega
        exact ⟨_, rfl, fun h => by omega, fun _ => by unfold pst ix kp; rw [if_neg e0, if_pos e']; simp; omega⟩
    · unfold kp
      rw [if_neg e0, if_neg (by omega)]
/-- two rows that stay beside one another from i to n -/
theorem stay_beside {f g : Nat → Nat} (wf : ∀ i, Fa (f i)) (wg : ∀ i, Fa (g i)) {i n : Nat} (hs : ∀ j, j < i → f j = g j) (ne : f i ≠ g i) (hi : i < n) (hd : ∀ m, m ≤ n → dst f g m ≤ 1) :
    ∃ c, (c = 102 ∨ c = 115) ∧ f i ≠ c ∧ g i ≠ c ∧ ∀ j, i < j → j < n → f j = c ∧ g j = c := by
  have hp : P f i = P g i := dst_same hs
  have h1 := hd (i + 1) hi
  have dd : dst f g (i + 1) = ab (pst (P f i) (f i) - pst (P f i) (g i)) := by unfold dst; rw [P_succ, P_succ, ← hp]
  rw [dd] at h1
  obtain ⟨h2, h3⟩ := part_step (wf i) (wg i) ne h1
  obtain ⟨lo, hlo, hlo2⟩ : ∃ lo, (lo = pst (P f i) (f i) ∨ lo = pst (P f i) (g i)) ∧ (pst (P f i) (f i) = lo ∧ pst (P f i) (g i) = lo + 1 ∨ pst (P f i) (g i) = lo ∧ pst (P f i) (f i) = lo + 1) := by
    rcases h2 with h | h
    · exact ⟨_, .inl rfl, .inl ⟨rfl, h⟩⟩
    · exact ⟨_, .inr rfl, .inr ⟨rfl, h⟩⟩
  have h4 := h3 lo hlo hlo2
  refine ⟨kp lo, kp_two lo, ?_, ?_, ?_⟩
  · unfold kp; rcases h4 with ⟨e, a, b⟩ | ⟨e, a, b⟩
    · rw [if_pos e]; exact a
    · rw [if_neg (by omega)]; exact a
  · unfold kp; rcases h4 with ⟨e, a, b⟩ | ⟨e, a, b⟩
    · rw [if_pos e]; exact b
    · rw [if_neg (by omega)]; exact b
  have key : ∀ k, i + 1 + k ≤ n → (∃ lo', kp lo' = kp lo ∧ (P f (i + 1 + k) = lo' ∧ P g (i + 1 + k) = lo' + 1 ∨ P g (i + 1 + k) = lo' ∧ P f (i + 1 + k) = lo' + 1)) ∧ ∀ j, i < j → j < i + 1 + k → f j = kp lo ∧ g j = kp lo := by
    intro k
    induction k with
    | zero =>
      intro _
      refine ⟨⟨lo, rfl, ?_⟩, fun j a b => by omega⟩
      show P f (i + 1) = lo ∧ P g (i + 1) = lo + 1 ∨ P g (i + 1) = lo ∧ P f (i + 1) = lo + 1
      rw [P_succ, P_succ, ← hp]
      exact hlo2
    | succ k ih =>
      intro hk
      obtain ⟨⟨lo', e1, e2⟩, e3⟩ := ih (by omega)
      have h5 := hd (i + 1 + k + 1) (by omega)
      have both : f (i + 1 + k) = kp lo' ∧ g (i + 1 + k) = kp lo' := by
        unfold dst at h5
        rw [P_succ, P_succ] at h5
        rcases e2 with ⟨a, b⟩ | ⟨a, b⟩
        · rw [a, b] at h5
          rcases near_step (wf _) (wg _) h5 with ⟨x, y, z⟩ | ⟨x, y, z⟩
          · unfold kp; rw [if_pos x]; exact ⟨y, z⟩
          · unfold kp; rw [if_neg (by omega)]; exact ⟨y, z⟩
        · rw [a, b] at h5
          have h6 : ab (pst lo' (g (i + 1 + k)) - pst (lo' + 1) (f (i + 1 + k))) ≤ 1 := by
            unfold ab at h5 ⊢
            split at h5 <;> split <;> omega
          rcases near_step (wg _) (wf _) h6 with ⟨x, y, z⟩ | ⟨x, y, z⟩
          · unfold kp; rw [if_pos x]; exact ⟨z, y⟩
          · unfold kp; rw [if_neg (by omega)]; exact ⟨z, y⟩
      refine ⟨?_, fun j a b => ?_⟩
      · obtain ⟨lo2, k1, k2⟩ := kp_step lo'
        refine ⟨lo2, k2.trans e1, ?_⟩
        show P f (i + 1 + k + 1) = lo2 ∧ P g (i + 1 + k + 1) = lo2 + 1 ∨ P g (i + 1 + k + 1) = lo2 ∧ P f (i + 1 + k + 1) = lo2 + 1
        rw [P_succ, P_succ, both.1, both.2]
        rcases e2 with ⟨a, b⟩ | ⟨a, b⟩
        · obtain ⟨q1, r1, r2, r3⟩ := k1 _ (.inl a)
          obtain ⟨q2, s1, s2, s3⟩ := k1 _ (.inr b)
          exact .inl ⟨by rw [← r1]; exact r2 a, by rw [← s1]; exact s3 b⟩
        · obtain ⟨q1, r1, r2, r3⟩ := k1 _ (.inl a)
          obtain ⟨q2, s1, s2, s3⟩ := k1 _ (.inr b)
          exact .inr ⟨by rw [← r1]; exact r2 a, by rw [← s1]; exact s3 b⟩
      · by_cases hj : j = i + 1 + k
        · subst hj
          rw [← e1]
          exact both
        · exact e3 j a (by omega)
  intro j a b
  exact (key (n - (i + 1)) (by omega)).2 j a (by omega)
/-- the third one: what is told of a and b -/
def oth (c x : Nat) : Nat := 327 - c - x
def twn (a b : List Nat) : Option (List Nat × List Nat) :=
  if b = [115] then (if a.getLast? = some 102 then some (a.dropLast ++ [110], [115]) else if a.getLast? = some 110 then some (a.dropLast ++ [102], [115]) else none)
  else if b = [102] then (if a.getLast? = some 115 then some (a.dropLast ++ [110], [102]) else if a.getLast? = some 110 then some (a.dropLast ++ [115], [102]) else none)
  else none
theorem rw_fa {h r : List Nat} (wh : Wd h) (wr : Wd r) (r0 : 0 < r.length) (i : Nat) : Fa (rw h r i) := by
  by_cases hi : i < h.length
  · rw [rw_lt hi, List.getD_eq_getElem?_getD, List.getElem?_eq_getElem hi]
    exact wh _ (List.getElem_mem hi)
  · have hm : (i - h.length) % r.length < r.length := Nat.mod_lt _ r0
    rw [rw_ge (by omega), List.getD_eq_getElem?_getD, List.getElem?_eq_getElem hm]
    exact wr _ (List.getElem_mem hm)
/-- what is told of a row that is c for ever behind a round of another fate -/
theorem least_const {h r a b : List Nat} {i c : Nat} (x : Least h r a b) (hc : ∀ j, i < j → rw h r j = c) (ne : rw h r i ≠ c) : a = seg (rw h r) 0 (i + 1) ∧ b = [c] := by
  have hper : Per (rw h r) (i + 1) 1 := fun j hj => by rw [hc j (by omega), hc (j + 1) (by omega)]
  have hmin : IsMin (rw h r) (i + 1) 1 := ⟨by decide, hper, fun m' p' h0 hp => by
    refine Nat.le_of_not_lt fun hlt => ne ?_
    have := hp i (by omega)
    rw [hc (i + p') (by omega)] at this
    exact this.symm, fun p' h0 _ => h0⟩
  obtain ⟨e1, e2⟩ := x.min.uniq hmin
  have r1 := rw_head a b
  have r2 := rw_ring a b
  rw [x.row, e1] at r1
  rw [x.row, e1, e2] at r2
  refine ⟨r1.symm, ?_⟩
  rw [← r2]
  simp [seg, hc (i + 1) (by omega)]
theorem seg_succ (f : Nat → Nat) (n : Nat) : seg f 0 (n + 1) = seg f 0 n ++ [f n] := by
  have h : seg f 0 n ++ seg f (0 + n) 1 = seg f 0 (n + 1) := seg_app
  rw [← h]
  congr 1
  simp [seg]
/-- twins, by their least forms -/
theorem twn_of {f g : Nat → Nat} (wf : ∀ i, Fa (f i)) (wg : ∀ i, Fa (g i)) {i c : Nat} (hs : ∀ j, j < i → f j = g j) (ne : f i ≠ g i) (hc : c = 102 ∨ c = 115) (n1 : f i ≠ c) (n2 : g i ≠ c) :
    twn (seg f 0 (i + 1)) [c] = some (seg g 0 (i + 1), [c]) := by
  have e : seg f 0 i = seg g 0 i := seg_ext fun j hj => by rw [Nat.zero_add]; exact hs j hj
  rw [seg_succ, seg_succ, e]
  unfold twn
  rw [List.getLast?_concat, List.dropLast_concat]
  have w1 := wf i
  have w2 := wg i
  generalize f i = x at *
  generalize g i = y at *
  rcases hc with rfl | rfl <;> rcases w1 with rfl | rfl | rfl <;> rcases w2 with rfl | rfl | rfl <;> simp at ne n1 n2 ⊢
/-- rows of short heads and rounds that stay beside one another are alike or twins -/
theorem grown {h r h' r' : List Nat} (wh : Wd h) (wr : Wd r) (wh' : Wd h') (wr' : Wd r') (r0 : 0 < r.length) (r0' : 0 < r'.length) {M p n : Nat} (l1 : h.length ≤ M) (l2 : h'.length ≤ M) (l3 : r.length ≤ p) (l4 : r'.length ≤ p)
    (hn : M + 4 * p + 2 ≤ n) (ne : rw h r ≠ rw h' r') (hd : ∀ m, m ≤ n → dst (rw h r) (rw h' r') m ≤ 1) :
    ∃ i c, (c = 102 ∨ c = 115) ∧ (∀ j, j < i → rw h r j = rw h' r' j) ∧ rw h r i ≠ rw h' r' i ∧ rw h r i ≠ c ∧ rw h' r' i ≠ c ∧ (∀ j, i < j → rw h r j = c) ∧ ∀ j, i < j → rw h' r' j = c := by
  have hex : ∃ i, i < M + r.length + r'.length ∧ rw h r i ≠ rw h' r' i := by
    refine Classical.byContradiction fun z => ne ?_
    refine fine_wilf ((rw_per h r).mono l1) ((rw_per h' r').mono l2) r0 r0' fun i hi => ?_
    exact Classical.byContradiction fun y => z ⟨i, hi, y⟩
  obtain ⟨i0, hi0, hne⟩ := hex
  obtain ⟨i, hi, hl⟩ := least_ex (P := fun i => rw h r i ≠ rw h' r' i) i0 hne
  have hs : ∀ j, j < i → rw h r j = rw h' r' j := fun j hj => Classical.byContradiction fun z => by
    have := hl j z
    omega
  have hii : i < M + 2 * p := by
    have := hl i0 hne
    omega
  obtain ⟨c, c1, c2, c3, c4⟩ := stay_beside (rw_fa wh wr r0) (rw_fa wh' wr' r0') hs hi (n := n) (by omega) hd
  have ext : ∀ (h r : List Nat), 0 < r.length → h.length ≤ M → r.length ≤ p → (∀ j, i < j → j < n → rw h r j = c) → ∀ j, i < j → rw h r j = c := by
    intro h r r0 l1 l3 hc j
    induction j using Nat.strongRecOn with
    | _ j ih =>
      intro hj
      by_cases hjn : j < n
      · exact hc j hj hjn
      · have := rw_per h r (j - r.length) (by omega)
        rw [show j - r.length + r.length = j by omega] at this
        rw [this]
        exact ih _ (by omega) (by omega)
  exact ⟨i, c, c1, hs, hi, c2, c3, ext h r r0 l1 l3 fun j a b => (c4 j a b).1, ext h' r' r0' l2 l4 fun j a b => (c4 j a b).2⟩
/-- twins stay beside one another -/
theorem twins_near {f g : Nat → Nat} {i c : Nat} (wf : ∀ i, Fa (f i)) (wg : ∀ i, Fa (g i)) (hs : ∀ j, j < i → f j = g j) (hc : c = 102 ∨ c = 115) (ne : f i ≠ g i) (n1 : f i ≠ c) (n2 : g i ≠ c) (h1 : ∀ j, i < j → f j = c) (h2 : ∀ j, i < j → g j = c) :
    ∀ m, dst f g m ≤ 1 ∧ (i < m → dst f g m = 1) := by
  have hp : P f i = P g i := dst_same hs
  have key : ∀ k, ∃ lo, kp lo = c ∧ (P f (i + 1 + k) = lo ∧ P g (i + 1 + k) = lo + 1 ∨ P g (i + 1 + k) = lo ∧ P f (i + 1 + k) = lo + 1) := by
    intro k
    induction k with
    | zero =>
      show ∃ lo, kp lo = c ∧ (P f (i + 1) = lo ∧ P g (i + 1) = lo + 1 ∨ P g (i + 1) = lo ∧ P f (i + 1) = lo + 1)
      rw [P_succ, P_succ, ← hp]
      have w1 := wf i
      have w2 := wg i
      generalize f i = x at *
      generalize g i = y at *
      generalize P f i = p
      unfold pst ix kp
      rcases (show p % 2 = 0 ∨ p % 2 = 1 by omega) with e | e
      · rw [if_pos e, if_pos e]
        rcases hc with rfl | rfl <;> rcases w1 with rfl | rfl | rfl <;> rcases w2 with rfl | rfl | rfl <;> simp at ne n1 n2 ⊢
        · exact ⟨3 * p, by omega, by omega⟩
        · exact ⟨3 * p, by omega, by omega⟩
        · exact ⟨3 * p + 1, by omega, by omega⟩
        · exact ⟨3 * p + 1, by omega, by omega⟩
      · have e' : ¬ p % 2 = 0 := by omega
        rw [if_neg e', if_neg e']
        rcases hc with rfl | rfl <;> rcases w1 with rfl | rfl | rfl <;> rcases w2 with rfl | rfl | rfl <;> simp at ne n1 n2 ⊢
        · exact ⟨3 * p + 1, by omega, by omega⟩
        · exact ⟨3 * p + 1, by omega, by omega⟩
        · exact ⟨3 * p, by omega, by omega⟩
        · exact ⟨3 * p, by omega, by omega⟩
    | succ k ih =>
      obtain ⟨lo, e1, e2⟩ := ih
      obtain ⟨lo2, k1, k2⟩ := kp_step lo
      refine ⟨lo2, k2.trans e1, ?_⟩
      show P f (i + 1 + k + 1) = lo2 ∧ P g (i + 1 + k + 1) = lo2 + 1 ∨ P g (i + 1 + k + 1) = lo2 ∧ P f (i + 1 + k + 1) = lo2 + 1
      rw [P_succ, P_succ, h1 _ (by omega), h2 _ (by omega), ← e1]
      rcases e2 with ⟨a, b⟩ | ⟨a, b⟩
      · obtain ⟨q1, r1, r2, r3⟩ := k1 _ (.inl a)
        obtain ⟨q2, s1, s2, s3⟩ := k1 _ (.inr b)
        exact .inl ⟨by rw [← r1]; exact r2 a, by rw [← s1]; exact s3 b⟩
      · obtain ⟨q1, r1, r2, r3⟩ := k1 _ (.inl a)
        obtain ⟨q2, s1, s2, s3⟩ := k1 _ (.inr b)
        exact .inr ⟨by rw [← r1]; exact r2 a, by rw [← s1]; exact s3 b⟩
  have hgt : ∀ m, i < m → dst f g m = 1 := fun m hm => by
    obtain ⟨k, rfl⟩ : ∃ k, m = i + 1 + k := ⟨m - (i + 1), by omega⟩
    obtain ⟨lo, _, e2⟩ := key k
    unfold dst ab
    rcases e2 with ⟨a, b⟩ | ⟨a, b⟩ <;> rw [a, b] <;> split <;> omega
  intro m
  refine ⟨?_, hgt m⟩
  by_cases hm : i < m
  · have := hgt m hm
    omega
  · unfold dst
    rw [dst_same (f := f) (g := g) (n := m) fun j hj => hs j (by omega), Int.sub_self]
    decide
/-- what a told twin is -/
theorem twn_some {a b : List Nat} {y : List Nat × List Nat} (e : twn a b = some y) : ∃ (z : List Nat) (u v c : Nat), a = z ++ [u] ∧ b = [c] ∧ y = (z ++ [v], [c]) ∧ (c = 102 ∨ c = 115) ∧ u ≠ v ∧ u ≠ c ∧ v ≠ c ∧ Fa u ∧ Fa v := by
  unfold twn at e
  have go : ∀ u, a.getLast? = some u → a = a.dropLast ++ [u] := fun u h => by
    have : a ≠ [] := fun z => by rw [z] at h; cases h
    rw [List.getLast?_eq_some_getLast this] at h
    have h := Option.some.inj h
    rw [← h]
    exact (List.dropLast_concat_getLast this).symm
  split at e
  · rename_i hb
    split at e
    · rename_i h
      exact ⟨_, 102, 110, 115, go _ h, hb, (Option.some.inj e).symm, by decide, by decide, by decide, by decide, by unfold Fa; decide, by unfold Fa; decide⟩
    · split at e
      · rename_i h
        exact ⟨_, 110, 102, 115, go _ h, hb, (Option.some.inj e).symm, by decide, by decide, by decide, by decide, by unfold Fa; decide, by unfold Fa; decide⟩
      · cases e
  · split at e
    · rename_i hb
      split at e
      · rename_i h
        exact ⟨_, 115, 110, 102, go _ h, hb, (Option.some.inj e).symm, by decide, by decide, by decide, by decide, by unfold Fa; decide, by unfold Fa; decide⟩
      · split at e
        · rename_i h
          exact ⟨_, 110, 115, 102, go _ h, hb, (Option.some.inj e).symm, by decide, by decide, by decide, by decide, by unfold Fa; decide, by unfold Fa; decide⟩
        · cases e
    · cases e
/-- a row that is so many letters, and then one for ever -/
theorem rw_snoc (z : List Nat) (u c : Nat) : (∀ j, j < z.length → rw (z ++ [u]) [c] j = z.getD j 0) ∧ rw (z ++ [u]) [c] z.length = u ∧ ∀ j, z.length < j → rw (z ++ [u]) [c] j = c := by
  refine ⟨fun j hj => ?_, ?_, fun j hj => ?_⟩
  · rw [rw_lt (by simp; omega), List.getD_eq_getElem?_getD, List.getD_eq_getElem?_getD, List.getElem?_append_left hj]
  · rw [rw_lt (by simp), List.getD_eq_getElem?_getD, List.getElem?_append_right (Nat.le_refl _)]
    simp
  · rw [rw_ge (by simp; omega)]
    simp [Nat.mod_one]
/-- a small loss that stands at t -/
def Lo (H : Hp) (t : Addr) (h r : List Nat) : Prop := H t = some (.tup [.str (S h), .str (S r)]) ∧ Wd h ∧ Wd r ∧ h.length ≤ 14 ∧ r.length ≤ 3 ∧ 0 < r.length
theorem Lo.same {H H' : Hp} {t : Addr} {h r : List Nat} (x : Lo H t h r) (e : Same H H') : Lo H' t h r := ⟨e _ _ x.1, x.2⟩
theorem tup_ne {H : Hp} {t a : Addr} {xs : List V} {c : Int} (h : H t = some (.tup xs)) (p : PotAt H a c) : t ≠ a := by
  obtain ⟨own, sd, n, h1, _⟩ := p
  intro z
  subst z
  rw [h] at h1
  cases h1
theorem Lo.but {H H' : Hp} {t a : Addr} {h r : List Nat} {c : Int} (x : Lo H t h r) (b : But a H H') (p : PotAt H a c) : Lo H' t h r := ⟨b _ _ (tup_ne x.1 p) x.1, x.2⟩
theorem wd_segF {f : Nat → Nat} (w : ∀ i, Fa (f i)) (a n : Nat) : Wd (seg f a n) := fun c hc => by
  unfold seg at hc
  obtain ⟨j, _, e⟩ := List.mem_map.mp hc
  rw [← e]
  exact w _
theorem dst_nn (f g : Nat → Nat) (n : Nat) : 0 ≤ dst f g n := by unfold dst ab; split <;> omega
theorem dst_lt (f g : Nat → Nat) (n : Nat) : dst f g n < 3 ^ n := by
  have h1 := P_lt f n
  have h2 := P_lt g n
  have h3 := P_nn f n
  have h4 := P_nn g n
  unfold dst ab
  split <;> omega
theorem pow3_le {i n : Nat} (h : i ≤ n) : (3 : Int) ^ i ≤ 3 ^ n := by
  obtain ⟨k, rfl⟩ := Nat.exists_eq_add_of_le h
  rw [Int.pow_add]
  have h1 := pow3_pos k
  have h2 := pow3_pos i
  have := Int.mul_le_mul_of_nonneg_left (show (1 : Int) ≤ 3 ^ k by omega) (Int.le_of_lt h2)
  omega
theorem acc_ints {acc : List V} {n : Nat} {g : Nat → Int} (hl : acc.length = n) (h : ∀ (i : Nat) (v : V), acc[i]? = some v → v = .int (g i)) : acc = (List.range n).map fun i => V.int (g i) := by
  subst hl
  refine List.ext_getElem? fun i => ?_
  by_cases hi : i < acc.length
  · rw [List.getElem?_map, List.getElem?_range hi, List.getElem?_eq_getElem hi]
    exact congrArg some (h i _ (List.getElem?_eq_getElem hi))
  · rw [List.getElem?_eq_none (by omega), List.getElem?_eq_none (by rw [List.length_map, List.length_range]; omega)]
theorem r_maxL {K : PySem.W.Frag} {H : Hp} {Q : VK} {a : Addr} {ns : List Int} (hs : SqL K H a (ns.map V.int)) (h0 : 0 < ns.length) (q : ∀ m, m ∈ ns → (∀ y, y ∈ ns → y ≤ m) → Q (.int m) H) : rMax K [.ref a] H Q := ⟨a, ns, rfl, hs, h0, q⟩
theorem cut_one (l : List V) : cutV l (some 1) none = l.drop 1 := by
  unfold cutV
  rw [HT.sIx_none]
  by_cases h : 1 ≤ l.length
  · rw [show HT.sIx l.length 0 (some 1) = 1 from sIx_le h]
    exact List.take_of_length_le (by rw [List.length_drop]; omega)
  · have : l = [] := List.eq_nil_of_length_eq_zero (by omega)
    subst this
    rfl
theorem Wd.left {a b : List Nat} (h : Wd (a ++ b)) : Wd a := fun c hc => h c (List.mem_append.mpr (.inl hc))
theorem Wd.right {a b : List Nat} (h : Wd (a ++ b)) : Wd b := fun c hc => h c (List.mem_append.mpr (.inr hc))
/-- == of what is told as a twin, and a loss -/
theorem r_eqTw {K : PySem.W.Frag} {H : Hp} {Q : VK} {x : V} {u : Addr} {o : Option (List Nat × List Nat)} {c d : List Nat} (h1 : TwAt H x o) (h2 : H u = some (.tup [.str (S c), .str (S d)])) (ho : ∀ y, o = some y → Wd y.1 ∧ Wd y.2) (oc : Wd c) (od : Wd d)
    (q : Q (.bl (decide (o = some (c, d)))) H) : rEqD K x (.ref u) H Q := by
  cases o with
  | none =>
    obtain rfl : x = .non := h1
    refine ⟨_, _, .non, .tup (SqT.of h2) (.cons (.str _) (.cons (.str _) .nil)), rfl, ?_, ?_⟩
    · unfold SeqAt.shaped
      simp only [PyData.canLay0, PyData.canLayAll0, ok_S oc, ok_S od, PyData.depth, PyData.depthAll]
      rfl
    · rw [decide_eq_false (fun z => nomatch z)] at q
      exact q
  | some y =>
    obtain ⟨u', rfl, h3⟩ := h1
    obtain ⟨w1, w2⟩ := ho y rfl
    refine r_eqSS (SqT.of h3) (SqT.of h2) w1 w2 oc od ?_
    rw [show decide (y.1 = c ∧ y.2 = d) = decide (some y = some (c, d)) from decide_eq_decide.mpr ⟨fun z => congrArg some (Prod.ext z.1 z.2), fun z => ⟨congrArg Prod.fst (Option.some.inj z), congrArg Prod.snd (Option.some.inj z)⟩⟩]
    exact q
theorem twn_wd {a b : List Nat} (wa : Wd a) (wb : Wd b) {y : List Nat × List Nat} (e : twn a b = some y) : Wd y.1 ∧ Wd y.2 := by
  obtain ⟨z, p1, p2, p3, rfl, rfl, rfl, _, _, _, _, _, fa2⟩ := twn_some e
  exact ⟨wa.left.app fun c hc => by rw [List.mem_singleton.mp hc]; exact fa2, wb⟩
theorem least_ne {h r z : List Nat} {u c : Nat} (x : Least h r (z ++ [u]) [c]) : u ≠ c := fun e => by
  subst e
  obtain ⟨s1, s2, s3⟩ := rw_snoc z u u
  rw [x.row] at s2 s3
  have hper : Per (rw h r) z.length 1 := fun j hj => by
    rw [s3 (j + 1) (by omega)]
    by_cases e : j = z.length
    · rw [e, s2]
    · rw [s3 j (by omega)]
  have := x.min.head z.length 1 (by decide) hper
  simp at this
  omega
/-- what is told as twin is in its least form -/
theorem least_twn {z : List Nat} {v c : Nat} (h : v ≠ c) : Least (z ++ [v]) [c] (z ++ [v]) [c] := by
  obtain ⟨s1, s2, s3⟩ := rw_snoc z v c
  refine ⟨rfl, ?_⟩
  have hper := rw_per (z ++ [v]) [c]
  refine ⟨by simp, hper, fun m' p' h0 hp => ?_, fun p' h0 _ => by simp; omega⟩
  refine Nat.le_of_not_lt fun hlt => h ?_
  rw [List.length_append, List.length_singleton] at hlt
  have := hp z.length (by omega)
  rw [s3 _ (by omega), s2] at this
  exact this.symm
theorem twn_sym {a b a' b' : List Nat} (e : twn a b = some (a', b')) : twn a' b' = some (a, b) := by
  obtain ⟨z, u, v, c, rfl, rfl, e2, hc, n1, n2, n3, f1, f2⟩ := twn_some e
  obtain ⟨rfl, rfl⟩ := Prod.mk.inj e2
  unfold twn
  rw [List.getLast?_concat, List.dropLast_concat]
  rcases hc with rfl | rfl <;> rcases f1 with rfl | rfl | rfl <;> rcases f2 with rfl | rfl | rfl <;> simp at n1 n2 n3 ⊢
theorem twn_irr {a b : List Nat} : twn a b ≠ some (a, b) := fun e => by
  obtain ⟨z, u, v, c, rfl, rfl, e2, hc, n1, _⟩ := twn_some e
  have := (Prod.mk.inj e2).1
  simp at this
  exact n1 this
/-- one letter put in between head and round: no twin -/
theorem near_none {h r a b a' b' : List Nat} {x : Nat} (r0 : 0 < r.length) (l1 : Least h r a b) (l2 : Least (h ++ [x]) r a' b') : twn a b ≠ some (a', b') := fun e => by
  obtain ⟨z, u, v, c, rfl, rfl, e2, hc, n1, n2, n3, _, _⟩ := twn_some e
  obtain ⟨rfl, rfl⟩ := Prod.mk.inj e2
  obtain ⟨s1, s2, s3⟩ := rw_snoc z u c
  obtain ⟨t1, t2, t3⟩ := rw_snoc z v c
  rw [l1.row] at s1 s2 s3
  rw [l2.row] at t1 t2 t3
  by_cases hz : z.length < h.length
  · rw [rw_lt hz] at s2
    rw [rw_lt (by simp; omega), List.getD_eq_getElem?_getD, List.getElem?_append_left hz, ← List.getD_eq_getElem?_getD, s2] at t2
    exact n1 t2
  · have := rw_per h r z.length (by omega)
    rw [s3 _ (by omega), s2] at this
    exact n2 this.symm
end Tf

set_option Elab.async false
set_option linter.all false
set_option maxRecDepth 100000
set_option maxHeartbeats 2000000
/-! a text unpacked into names; tables with text keys of the program's top; x in a tuple of data -/
namespace Tf
open PySem PySem.Spec PyProof.Rows L2
/-! ### a text unpacked -/
section
variable {prog : Program} {w : World} {A : Around} {E : Value → Shared → Prop}
theorem walks_draw {I : Addr} {fp wr : List Addr} {n : Nat} {Pt : Nat → Value → Prop} {St : Nat → Heap → Prop} (W : Walks prog w A I fp wr n Pt St) : ∀ (k i : Nat) (s : Shared) (Q : List Value → Shared → Prop), St i s.heap → i + k ≤ n →
    (∀ us h' tk, us.length = k → (∀ (j : Nat) u, us[j]? = some u → Pt (i + j) u) → St (i + k) h' → (∀ b o, b ∉ wr → s.heap.get? b = some o → h'.get? b = some o) → Q us { s with heap := h', toks := tk }) → wpAny (model prog w) A (draw (.ref I) k) Q E s
  | 0, i, s, Q, st, _, hQ => by
    show wpAny _ _ (pure []) Q E s
    exact wpAny_pure (hQ [] s.heap s.toks rfl (fun j u e => by simp at e) st fun _ _ _ e => e)
  | k + 1, i, s, Q, st, hle, hQ => by
    show wpAny _ _ (pyNext (.ref I) >>= _) Q E s
    refine wpAny_bind (W.item i s _ E (by omega) st fun v h1 tk1 hv st1 k1 => ?_)
    refine wpAny_bind (wpAny_holding (walks_draw W k (i + 1) _ _ st1 (by omega) fun us h2 tk2 l2 p2 st2 k2 => wpAny_pure ?_))
    refine hQ (v :: us) h2 tk2 (by rw [List.length_cons, l2]) (fun j u e => ?_) (by rw [show i + (k + 1) = i + 1 + k by omega]; exact st2) fun b o hb e => k2 b o hb (k1 b o hb e)
    cases j with
    | zero => rw [Nat.add_zero, ← Option.some.inj e]; exact hv
    | succ j => rw [show i + (j + 1) = i + 1 + j by omega]; exact p2 j u e
theorem unpack_txt {z : Str} {t : Tok} {s : Shared} {Q : List Value → Shared → Prop} (hh : A.handled = none)
    (hQ : ∀ us h' tk, us.length = z.cps.size → (∀ (j : Nat) u, us[j]? = some u → SignAt z j u) → (∀ b o, s.heap.get? b = some o → h'.get? b = some o) → Q us { s with heap := h', toks := tk }) :
    wpAny (model prog w) A (unpackItems (.str z t) z.cps.size none) Q E s := by
  unfold unpackItems
  refine wpAny_bind ?_
  · unfold notIterableAtAll
    refine wpAny_bind (wpAny_specialOf (typeIs_str s z t) F.slot_str_iter.lookup ?_)
    refine wpAny_pure ?_
    simp only [Bool.false_eq_true, if_false]
    refine wpAny_bind (wpAny_holding (wpAny_pyIter_str fun o St W st => ?_))
    refine wpAny_bind (wpAny_holding (walks_draw (W A hh) z.cps.size 0 _ _ st (by omega) fun us h1 tk1 l1 p1 st1 k1 => ?_))
    rw [if_neg (by omega)]
    rw [Nat.zero_add] at st1
    refine wpAny_bind (wpAny_holding ((W A hh).done _ _ E st1 fun h2 tk2 k2 => ?_))
    simp only [Option.isSome_none, Bool.false_eq_true, if_false]
    refine wpAny_pure (hQ us h2 tk2 l1 (fun j u e => by have := p1 j u e; rwa [Nat.zero_add] at this) fun b ob e => ?_)
    have hb : b ∉ [s.heap.objs.size] := fun m => absurd (List.mem_singleton.mp m) (Nat.ne_of_lt (Heap.lt_size e))
    exact k2 b ob hb (k1 b ob hb (Heap.get?_push_of_some _ e))
end
def gTxt (n : Nat) (t : TGs) : TG := fun v σ H Q => ∃ z, v = .str z ∧ z.cps.size = n ∧ t (signsV z) σ H Q
theorem pg_txt {X : Cx} {pos : Pos} {es : List Expr} {k : Nat} {t : TGs} {n : Nat} (hc : X.calm = true) (h : PGs X es t)
    (hn : (assignEach es X.env).length = n := by rfl) (hst : (assignEach es X.env).findIdx? (·.1) = none := by rfl) : PG X (.Tuple es k pos) (gTxt n t) := by
  refine ⟨fun pins s σ H v u Q I r hw => ?_⟩
  obtain ⟨z, e1, hl, hw⟩ := hw
  subst e1
  obtain ⟨tk, rfl⟩ := r
  have hsz : (assignEach es X.env).length = z.cps.size := by rw [hn, ← hl]
  rw [PyProof.Rows.assign_Tuple]
  refine wpAny_bind (wpAny_standAt ?_)
  unfold unpack
  rw [hsz, hst]
  refine wpAny_bind (wpAny_holding (unpack_txt (I.ok.hd hc) fun us h' tk' l1 p1 hx => ?_))
  have I1 : Inv X pins σ H { s with heap := h', toks := tk' } := I.kept (t' := tk') hx
  have rv : Vals (signsV z) us := by
    have := vals_signs (z := z) (acc := us.toArray) ⟨by simpa using l1, fun j v e => p1 j v (by simpa using e)⟩
    simpa using this
  exact h.run pins _ σ H _ _ Q I1 rv hw
theorem r_gTxt {l : List Nat} {t : TGs} {σ : L2.St} {H : Hp} {Q : L2.St → Hp → Prop} (h : t (l.map fun c => V.str (S [c])) σ H Q) : gTxt l.length t (.str (S l)) σ H Q := ⟨_, rfl, by simp [S], by rw [signs_S]; exact h⟩
theorem r_gTxt2 {x y : Nat} {t : TGs} {σ : L2.St} {H : Hp} {Q : L2.St → Hp → Prop} (h : t [V.str (S [x]), V.str (S [y])] σ H Q) : gTxt 2 t (.str (S [x, y])) σ H Q := r_gTxt (l := [x, y]) h
/-! ### tables -/
def lkp (kvs : List (List Nat × V)) (z : List Nat) : Option V := (kvs.find? fun q => decide (q.1 = z)).map (·.2)
def KTab (K : PySem.W.Frag) (w : World) (d : Addr) (kvs : List (List Nat × V)) : Prop :=
  (∃ es n, KDict K w d es n) ∧ ∀ z, ∃ r, PySem.W.nsIn K d (S z) = some r ∧ (match lkp kvs z with | none => r = none | some v => ∃ u, r = some u ∧ RelV v u)
def rInTab (neg : Bool) (d : Addr) (kvs : List (List Nat × V)) : R2 := fun x y H Q => ∃ z, x = .str (S z) ∧ y = .ref d ∧ Q (.bl (if neg then !(lkp kvs z).isSome else (lkp kvs z).isSome)) H
def rIxTab (d : Addr) (kvs : List (List Nat × V)) : R2 := fun x y H Q => ∃ z v, x = .ref d ∧ y = .str (S z) ∧ lkp kvs z = some v ∧ Q v H
section
variable {X : Cx} {d : Addr} {kvs : List (List Nat × V)}
theorem tab_some (T : KTab X.K X.w d kvs) (z : List Nat) : ∃ r, PySem.W.nsIn X.K d (S z) = some r ∧ r.isSome = (lkp kvs z).isSome := by
  obtain ⟨r, e, h⟩ := T.2 z
  refine ⟨r, e, ?_⟩
  cases q : lkp kvs z with
  | none => rw [q] at h; rw [h]; rfl
  | some v => rw [q] at h; obtain ⟨u, h, _⟩ := h; rw [h]; rfl
theorem op_in_tab (T : KTab X.K X.w d kvs) : OpR X (compareOp .In) (rInTab false d kvs) := by
  intro pins s σ H x y v u Q I rx ry h
  obtain ⟨z, rfl, rfl, q⟩ := h
  obtain ⟨es, n, D⟩ := T.1
  obtain ⟨r, e, hr⟩ := tab_some T z
  exact op_in_kd D pins s σ H _ _ v u Q I rx ry ⟨S z, r, rfl, rfl, e, by rw [hr]; exact q⟩
theorem op_notIn_tab (T : KTab X.K X.w d kvs) : OpR X (compareOp .NotIn) (rInTab true d kvs) := by
  intro pins s σ H x y v u Q I rx ry h
  obtain ⟨z, rfl, rfl, q⟩ := h
  obtain ⟨es, n, D⟩ := T.1
  obtain ⟨r, e, hr⟩ := tab_some T z
  exact op_notIn_kd D pins s σ H _ _ v u Q I rx ry ⟨S z, r, rfl, rfl, e, by rw [hr]; exact q⟩
theorem ix_tab (T : KTab X.K X.w d kvs) : IxR X (rIxTab d kvs) := by
  intro value slice pins s σ H x y v u Q I rx ry h hs
  obtain ⟨z, v0, rfl, rfl, hv, q⟩ := h
  obtain ⟨es, n, D⟩ := T.1
  obtain ⟨r, e, hr⟩ := T.2 z
  rw [hv] at hr
  obtain ⟨u0, rfl, r0⟩ := hr
  obtain rfl : v = Value.ref d := rx
  obtain ⟨t, rfl⟩ := (show ∃ t, u = Value.str (S z) t from ry)
  have hm := PySem.W.mapOf_K (prog := X.prog) (w := X.w) I.kIn D.at_ D.lit
  exact tail_any hm.typeIs PySem.slot_dict_getitem.lookup (wpAny_getItem_of (strKind_is X.prog X.w (S z) t) hm (PySem.W.find_K D.at_ e) ⟨v0, H, I.tok _, r0, q⟩) hs
end
theorem ns_absent {K : PySem.W.Frag} {Pm : Params} {a : Addr} {ks : List Str} (h : He.dicW K a = some (He.keysIn Pm ks)) {z : Str} (hz : z ∉ ks) : PySem.W.nsIn K a z = some none := by
  unfold He.dicW at h
  unfold PySem.W.nsIn
  cases q : K.lookup a with
  | none => rw [q] at h; cases h
  | some o =>
    obtain ⟨oc, od, dt, osl⟩ := o
    rw [q] at h
    cases oc with
    | type c =>
      cases od with
      | none =>
        cases dt with
        | dict es n =>
          simp only at h
          split at h
          · have h2 := Option.some.inj h
            have key : ∀ e ∈ es.toList, ∃ x t, e.key = .str x t ∧ x ∈ ks := fun e he => by
              have hm : He.keyOf e ∈ es.toList.map He.keyOf := List.mem_map.mpr ⟨e, he, rfl⟩
              rw [h2] at hm
              unfold He.keysIn at hm
              obtain ⟨k, hk, ek⟩ := List.mem_map.mp hm
              unfold He.keyOf at ek
              split at ek
              · rename_i x t qk
                have := Option.some.inj ek
                exact ⟨x, t, qk, by rw [← (Prod.mk.inj this).1]; exact hk⟩
              · cases ek
            have f1 : es.toList.find? (·.key.isStr z) = none := List.find?_eq_none.mpr fun e he => by
              obtain ⟨x, t, e1, e2⟩ := key e he
              rw [e1]
              show ¬ (x == z) = true
              intro e3
              exact hz ((eq_of_beq e3) ▸ e2)
            have f2 : es.toList.any (·.refKey) = false := List.any_eq_false.mpr fun e he => by
              obtain ⟨x, t, e1, e2⟩ := key e he
              unfold DictEntry.refKey
              rw [e1]
              exact Bool.false_ne_true
            simp only [f1, f2]
            rfl
          · cases h
        | _ => cases h
      | some b => cases dt <;> cases h
    | _ => cases od <;> cases dt <;> cases h
theorem saysT_keys {fa : List He.Fa} {fn : List He.DefD} {ts : List He.Tab} {w : World} {K : PySem.W.Frag} (c : He.SaysT fa fn ts w K) (i : Nat) {t : He.Tab} (h : ts[i]? = some t := by rfl) : He.dicW K (t.1 K) = some (He.keysIn w.params t.2) := by
  have e : ts.map (fun t => He.dicW K (t.1 K)) = ts.map fun t => some (He.keysIn w.params t.2) := congrArg (fun z : He.AlT => z.2) c
  have e2 : (ts.map fun t => He.dicW K (t.1 K))[i]? = (ts.map fun t => some (He.keysIn w.params t.2))[i]? := by rw [e]
  rw [List.getElem?_map, List.getElem?_map, h] at e2
  exact Option.some.inj e2
theorem S_mem {z : List Nat} {ks : List (List Nat)} (h : S z ∈ ks.map S) : z ∈ ks := by
  obtain ⟨k, hk, e⟩ := List.mem_map.mp h
  rw [← S_inj e]
  exact hk
theorem tab_ok {K : PySem.W.Frag} {w : World} {d : Addr} {kvs : List (List Nat × He.Dv)} (h1 : He.dicW K d = some (He.keysIn w.params (kvs.map fun q => S q.1))) (h2 : He.valsB K d (kvs.map fun q => (S q.1, q.2)) = true) :
    KTab K w d (kvs.map fun q => (q.1, q.2.v K)) := by
  refine ⟨He.dicW_ok h1, fun z => ?_⟩
  unfold lkp
  rw [List.find?_map]
  cases e : kvs.find? ((fun q : List Nat × V => decide (q.1 = z)) ∘ fun q : List Nat × He.Dv => (q.1, q.2.v K)) with
  | none =>
    refine ⟨none, ns_absent h1 fun hm => ?_, rfl⟩
    rw [show (kvs.map fun q => S q.1) = (kvs.map fun q => q.1).map S by rw [List.map_map]; rfl] at hm
    obtain ⟨q, hq, e2⟩ := List.mem_map.mp (S_mem hm)
    have := List.find?_eq_none.mp e q hq
    simp [e2] at this
  | some q =>
    have hq := List.mem_of_find?_eq_some e
    have hz := List.find?_some e
    have hz2 : q.1 = z := by simpa using hz
    obtain ⟨u, u1, u2⟩ := He.valsB_ok h2 (q := (S q.1, q.2)) (List.mem_map.mpr ⟨q, hq, rfl⟩)
    exact ⟨some u, by rw [← hz2]; exact u1, u, rfl, u2⟩
/-! ### x in a tuple of data -/
def rInDT (K : PySem.W.Frag) : R2 := fun x y H Q => ∃ d ds, Dp K H x d ∧ Dp K H y (.tuple ds) ∧ SeqAt.shaped d = true ∧ SeqAt.shaped (.tuple ds) = true ∧ d.depth ≤ 60 ∧ Q (.bl (ds.any fun z => PyData.eqv z d)) H
theorem op_inDT {X : Cx} (hu : X.A.units + 64 < cLine) : OpR X (compareOp .In) (rInDT X.K) := by
  intro pins s σ H x y v u Q I rx ry h
  obtain ⟨d, ds, hd, he, sd, se, hdep, q⟩ := h
  obtain ⟨as, r1⟩ := Dp.reads I d x v hd rx
  obtain ⟨bs, r2⟩ := Dp.reads I (.tuple ds) y u he ry
  exact SeqAt.in_tuple_reads r2 r1 (SeqAt.canLay_of_shaped se) (SeqAt.canLay_of_shaped sd) (by have := Nat.min_le_right (PyData.depthAll ds) d.depth; omega) ⟨.bl _, H, I, rfl, q⟩
/-- a loss in what twins tells -/
def TwsAt (H : Hp) (x : V) : Option (List Nat × List Nat) → Prop
  | none => ∃ p, x = .ref p ∧ H p = some (.tup [])
  | some y => ∃ p u, x = .ref p ∧ H p = some (.tup [.ref u]) ∧ H u = some (.tup [.str (S y.1), .str (S y.2)])
theorem TwsAt.same {H H' : Hp} {x : V} {o : Option (List Nat × List Nat)} (e : Same H H') (h : TwsAt H x o) : TwsAt H' x o := by
  cases o with
  | none =>
    obtain ⟨u, h1, h2⟩ := h
    exact ⟨u, h1, e _ _ h2⟩
  | some y =>
    obtain ⟨p, u, h1, h2, h3⟩ := h
    exact ⟨p, u, h1, e _ _ h2, e _ _ h3⟩
theorem shaped_tt {c d : List Nat} (oc : Wd c) (od : Wd d) : SeqAt.shaped (.tuple [.tuple [.str (S c), .str (S d)]]) = true := by
  unfold SeqAt.shaped
  simp only [PyData.canLay0, PyData.canLayAll0, ok_S oc, ok_S od, PyData.depth, PyData.depthAll]
  rfl
theorem shaped_t {c d : List Nat} (oc : Wd c) (od : Wd d) : SeqAt.shaped (.tuple [.str (S c), .str (S d)]) = true := by
  unfold SeqAt.shaped
  simp only [PyData.canLay0, PyData.canLayAll0, ok_S oc, ok_S od, PyData.depth, PyData.depthAll]
  rfl
theorem r_inTws {K : PySem.W.Frag} {H : Hp} {Q : VK} {y : V} {u : Addr} {o : Option (List Nat × List Nat)} {c d : List Nat} (h1 : SqT K H u [.str (S c), .str (S d)]) (h2 : TwsAt H y o) (ho : ∀ y, o = some y → Wd y.1 ∧ Wd y.2) (oc : Wd c) (od : Wd d)
    (q : Q (.bl (decide (o = some (c, d)))) H) : rInDT K (.ref u) y H Q := by
  cases o with
  | none =>
    obtain ⟨p, rfl, hp⟩ := h2
    refine ⟨.tuple [.str (S c), .str (S d)], [], .tup h1 (.cons (.str _) (.cons (.str _) .nil)), .tup (SqT.of hp) .nil, shaped_t oc od, rfl, by simp [PyData.depth, PyData.depthAll], ?_⟩
    rw [decide_eq_false (fun z => nomatch z)] at q
    exact q
  | some z =>
    obtain ⟨p, u', rfl, hp, hu⟩ := h2
    obtain ⟨w1, w2⟩ := ho z rfl
    refine ⟨.tuple [.str (S c), .str (S d)], [.tuple [.str (S z.1), .str (S z.2)]], .tup h1 (.cons (.str _) (.cons (.str _) .nil)), .tup (SqT.of hp) (.cons (.tup (SqT.of hu) (.cons (.str _) (.cons (.str _) .nil))) .nil), shaped_t oc od, shaped_tt w1 w2, by simp [PyData.depth, PyData.depthAll], ?_⟩
    have e : ([PyData.tuple [.str (S z.1), .str (S z.2)]].any fun x => PyData.eqv x (.tuple [.str (S c), .str (S d)])) = decide (some z = some (c, d)) := by
      simp only [List.any_cons, List.any_nil, Bool.or_false, PyData.eqv, PyData.eqvAll, Bool.and_true, S_beq, ← Bool.decide_and]
      exact decide_eq_decide.mpr ⟨fun e => congrArg some (Prod.ext e.1 e.2), fun e => ⟨congrArg Prod.fst (Option.some.inj e), congrArg Prod.snd (Option.some.inj e)⟩⟩
    rw [e]
    exact q
end Tf

set_option Elab.async false
set_option linter.all false
set_option maxRecDepth 100000
set_option maxHeartbeats 2000000
/-! the end of a law with tables of the top and lambdas, over k_head -/
namespace Tf
open PySem PySem.Spec PyProof.Rows L2 LamX
def ff (K : PySem.W.Frag) : PySem.W.Frag := K.filter fun q => !He.emptyTab q.2
theorem lookup_mem {K : PySem.W.Frag} {a : Addr} {o : Obj} (nd : (K.map (·.1)).Nodup) (h : (a, o) ∈ K) : K.lookup a = some o := by
  induction K with
  | nil => cases h
  | cons p r ih =>
    obtain ⟨b, x⟩ := p
    rw [List.map_cons, List.nodup_cons] at nd
    rcases List.mem_cons.mp h with e | e
    · cases e
      exact List.lookup_cons_self
    · have hb : a ≠ b := fun z => nd.1 (by rw [← z]; exact List.mem_map.mpr ⟨_, e, rfl⟩)
      rw [List.lookup_cons, show (a == b) = false from beq_eq_false_iff_ne.mpr hb]
      exact ih nd.2 e
theorem mem_lookup {K : PySem.W.Frag} {a : Addr} {o : Obj} (h : K.lookup a = some o) : (a, o) ∈ K := by
  induction K with
  | nil => cases h
  | cons p r ih =>
    obtain ⟨b, x⟩ := p
    rw [List.lookup_cons] at h
    split at h
    · rename_i e
      obtain rfl := eq_of_beq e
      cases h
      exact List.mem_cons_self
    · exact List.mem_cons_of_mem _ (ih h)
theorem ff_in {K : PySem.W.Frag} {h : Heap} (X : K.In h) (nd : (K.map (·.1)).Nodup) : (ff K).In h := fun a o e => X a o (lookup_mem nd (List.mem_filter.mp (mem_lookup e)).1)
theorem saysX_of_k {K : PySem.W.Frag} {h : Heap} {w : World} {fa : List He.Fa} {fn : List He.DefD} {ts : List He.Tab} {tf : List He.Defn} {ex : PySem.W.Frag → Bool} (X : K.In h) (nd : decide ((K.map (·.1)).Nodup) = true) (t : He.obsT fa fn ts (ff K) = He.valT fn ts w) (m : ex (ff K) = true)
    (hd : tf.all (fun p => PySem.W.codeHdIn (ff K) (He.cT (ff K) p).1 (He.cT (ff K) p).2) = true) (out : tf.all (fun p => ((ff K).lookup (He.cT (ff K) p).2).isNone) = true)
    (em : tf.all (fun p => match K.lookup (He.cT (ff K) p).2 with | some o => He.emptyTab o | none => false) = true) : ∃ K' : PySem.W.Frag, K'.In h ∧ He.SaysX fa fn ts tf ex w h K' := by
  refine ⟨ff K, ff_in X (of_decide_eq_true nd), t, m, fun p hp => List.all_eq_true.mp hd p hp, fun p hp => Option.isNone_iff_eq_none.mp (List.all_eq_true.mp out p hp), fun p hp => ?_⟩
  have e := List.all_eq_true.mp em p hp
  cases q : K.lookup (He.cT (ff K) p).2 with
  | none =>
    simp only [q] at e
    cases e
  | some o =>
    simp only [q] at e
    rw [X _ _ q, He.emptyTab_eq e]
theorem saysX_of_km {K : PySem.W.Frag} {h : Heap} {w : World} {fa : List He.Fa} {fn : List He.DefD} {ts : List He.Tab} {tf : List He.Defn} {ex : PySem.W.Frag → Bool} {ps : List Addr} (X : K.In h) (tb : ∀ P ∈ ps, h.get? P = some (PySem.W.tabObj #[])) (t : He.obsT fa fn ts K = He.valT fn ts w) (m : ex K = true)
    (hd : tf.all (fun p => PySem.W.codeHdIn K (He.cT K p).1 (He.cT K p).2) = true) (out : tf.all (fun p => (K.lookup (He.cT K p).2).isNone) = true)
    (em : tf.all (fun p => decide ((He.cT K p).2 ∈ ps)) = true) : ∃ K' : PySem.W.Frag, K'.In h ∧ He.SaysX fa fn ts tf ex w h K' :=
  ⟨K, X, t, m, fun p hp => List.all_eq_true.mp hd p hp, fun p hp => Option.isNone_iff_eq_none.mp (List.all_eq_true.mp out p hp), fun p hp => tb _ (of_decide_eq_true (List.all_eq_true.mp em p hp))⟩
theorem walk_ofGT {l : PySem.W.OpenLaw} {n k : Nat} {q : Program} {loose : List Str} {XP : (Str → Option Value) → Heap → Prop} {YP : World → Heap → Prop} {d : DefRec} {x : Str} {st : Stmt} {tf : List He.Defn} {fl : List He.Fa} {fn : List He.DefD} {ts : List He.Tab} {ex : PySem.W.Frag → Bool} {sp : PySem.W.Frag → Sp}
    (hn : l.most = some n) (hn2 : n ≤ sizeLine) (hdf : d.params.defaults = []) (hr : Room k callerA) (hY : ∀ (w : World) (h : Heap), YP w h → ∃ K : PySem.W.Frag, K.In h ∧ He.SaysX fl fn ts tf ex w h K)
    (hb : ∀ {K : PySem.W.Frag} {f : Addr} {fd : FuncData}, FnP K d.name st f fd → ∀ (s : Shared) (u : Value), BindsTo s fd ⟨[u], []⟩ [(x, u)])
    (hsp : ∀ (K : PySem.W.Frag) (H : Hp) (a : Addr) (ns : List Int), ns.length ≤ n → Tabs (tabs K tf) H → SqL K H a (ns.map V.int) → sp K [.ref a] H (fun v _ => v = .bl true) E0)
    (F : ∀ (w : World) (mg : Str → Option Value) (h : Heap) (K : PySem.W.Frag), K.In h → He.SaysX fl fn ts tf ex w h K → h.Ns mainGlobals mg → ∀ base : Heap, K.In base → base.Ns mainGlobals mg → TBs K mg base tf → OkG l.prog w K mg base k d.name st [x] (sp K)) :
    PySem.W.WalkO q loose XP YP l.row.toRowW d [] (fun f vs => PySem.call f vs) := by
  refine Att.attach_callB hn hdf fun w s₀ s₁ mg mb fa o pm cd doc a vs ns G Y ho hd hcd hmg hobj hints hlen hbits hg => ?_
  obtain ⟨K, KX, c⟩ := hY w _ Y
  have fw : ∀ {φ : Addr × Addr → Prop}, (∀ p ∈ tf, φ (He.cT K p)) → ∀ q ∈ tf.map (He.cT K), φ q := fun h q hq => by
    obtain ⟨p, hp, rfl⟩ := List.mem_map.mp hq
    exact h p hp
  refine bottomed KX G.T.g G.T.b G.T.builtins G.T.nolimit hg (fw c.empty) (fw c.out) (fw fun p hp => PySem.W.codeHd_of_K KX (c.hd p hp)) G.T.bmain hobj hints (Nat.le_trans hlen hn2) fun base H B => ?_
  have hT : TBs K mg base tf := fun p hp => B.tabs _ (List.mem_map.mpr ⟨p, hp, rfl⟩)
  obtain ⟨f, fd, gg, D, b, len, run⟩ := (F w mg _ K KX c G.T.g base B.env.mod.kin B.env.mod.glob hT).ex
  rw [hmg] at gg
  cases gg
  have tb : Tabs (tabs K tf) H := fun r hr => by
    obtain ⟨p, hp, rfl⟩ := List.mem_map.mp hr
    exact TabS.nil (B.emp _ (List.mem_map.mpr ⟨p, hp, rfl⟩))
  exact run callerA [] s₁ H ⟨[.ref a], []⟩ [.ref a] [.ref a] _ _ rfl hr B.env (hb D s₁ (.ref a)) (.cons rfl .nil) (hsp K H a ns hlen tb B.scr)
end Tf

set_option Elab.async false
set_option linter.all false
set_option maxRecDepth 100000
set_option maxHeartbeats 2000000
/-! slices with a step, of lists; enumerate(text, start=k) -/
namespace Tf
open PySem PySem.Spec PyProof.Rows L2
def pickV (xs : List V) (lo hi st : Option Int) : List V :=
  (sliceRange (sliceBounds lo hi st xs.length).1 (sliceBounds lo hi st xs.length).2.1 (sliceBounds lo hi st xs.length).2.2).filterMap fun x => xs[x]?
theorem filter_vals {xs : List V} {its : List Value} (h : Vals xs its) : ∀ r : List Nat, Vals (r.filterMap fun x => xs[x]?) (r.filterMap fun x => its[x]?)
  | [] => .nil
  | i :: r => by
    cases e : xs[i]? with
    | none =>
      rw [List.filterMap_cons_none e, List.filterMap_cons_none (h.none_of e)]
      exact filter_vals h r
    | some x =>
      obtain ⟨u, hu, hr⟩ := h.get e
      rw [List.filterMap_cons_some e, List.filterMap_cons_some hu]
      exact .cons hr (filter_vals h r)
theorem pick_vals {xs : List V} {its : List Value} (h : Vals xs its) (lo hi st : Option Int) : slicePick its.toArray lo hi st = ((sliceRange (sliceBounds lo hi st xs.length).1 (sliceBounds lo hi st xs.length).2.1 (sliceBounds lo hi st xs.length).2.2).filterMap fun x => its[x]?).toArray := by
  rw [slicePick.eq_1, List.size_toArray, h.length]
  congr 2
  funext x
  exact List.getElem?_toArray
def tSlS (K : PySem.W.Frag) (te : TE) (tl th ts : L2.TO) : TE := fun σ H Q => te σ H fun x H1 => tl σ H1 fun lo H2 => th σ H2 fun hi H3 => ts σ H3 fun st H4 =>
  ∃ a xs, x = .ref a ∧ SqL K H4 a xs ∧ st ≠ some 0 ∧ ∀ p, H4 p = none → Q (.ref p) (upd H4 p (.lst (pickV xs lo hi st)))
theorem pe_sliceS {X : Cx} {e : Expr} {te : TE} {l u : Option Expr} {st : Expr} {tl th ts : L2.TO} {p3 pos : Pos} (he : PE X e te) (hl : PO X l tl) (hh : PO X u th) (hs : PO X (some st) ts) :
    PE X (.Subscript e (.Slice l u (some st) p3) pos) (tSlS X.K te tl th ts) := by
  refine ⟨fun pins s σ H Q I h => ?_⟩
  refine Subscript_ (thn (he.run pins s σ H _ I h) fun v s1 ⟨x, H1, I1, r1, q1⟩ => ?_)
  refine wpAny_Slice (thn (hl.run pins s1 σ H1 _ I1 q1) fun vl s2 ⟨lo, H2, I2, pl, q2⟩ => ?_)
  refine thn (hh.run pins s2 σ H2 _ I2 q2) fun vu s3 ⟨hi, H3, I3, pu, q3⟩ => ?_
  refine thn (hs.run pins s3 σ H3 _ I3 q3) fun vs s4 ⟨o, H4, I4, ps, a, xs, ex, hx, hn, q⟩ => ?_
  subst ex
  cases r1
  have I5 : Inv X pins σ H4 { s4 with heap := s4.heap.push { cls := .type "slice", data := .fields #[vl, vu, vs] } } := I4.kept (t' := s4.toks) fun b ob q => Heap.get?_push_of_some _ q
  obtain ⟨its, r, ht, hz⟩ := I5.list hx
  have hlen := r.length
  refine tail_any (ops := [.ref a, .ref s4.heap.objs.size]) ht.isList.typeIs (slot_list_getitem.lookup) ?_ (by with_unfolding_all rfl)
  refine wpAny_getItem_list_slice ht.isList (Heap.IsSliceOf.new _ vl vu vs) pl pu ps hn ?_ (by rw [List.size_toArray]; omega)
  rw [pick_vals r]
  have hp : (pickV xs lo hi o).length ≤ sizeLine := by
    have h1 := slicePick_size_le its.toArray lo hi o
    rw [pick_vals r, List.size_toArray, List.size_toArray, ← (filter_vals r _).length] at h1
    show (List.filterMap _ _).length ≤ _
    omega
  refine ⟨.ref _, _, I5.laid (t' := s4.toks) (o := .lst (pickV xs lo hi o)) (fun b ob q => Heap.get?_push_of_some _ q) (Nat.le_refl _) ?_, rfl, q _ (I5.hok.fresh (Nat.le_refl _))⟩
  exact ⟨hp, _, 0, filter_vals r _, Heap.get?_push_size _ rfl⟩
/-- enumerate(text, start=k0) -/
def ItEX (k0 : Int) (x : Str) : It where
  go i _ := i < x.cps.size
  yld i H v H' := ∃ T c, v = .ref T ∧ H T = none ∧ H' = upd H T (.tup [.int (k0 + i), .str ⟨#[c]⟩]) ∧ x.cps[i]? = some c
  stop i _ := x.cps.size ≤ i
theorem turn_enumX {P : Program} {w : World} {K : PySem.W.Frag} {elts : List Expr} {kk : Nat} {tpos : Pos} (k0 : Int) (x : Str) (t : Tok) (e it : Addr) (ne : e ≠ it) :
    Turn P w K (.Tuple elts kk tpos) (ItEX k0 x) [e, it] e (fun i h => i ≤ x.cps.size ∧ (∃ old, IsEnum h e it (k0 + i) old) ∧ h.IsStrIter it (strIterType x) x t i) where
  mem := by simp
  obj := fun i h ⟨_, ⟨old, h1⟩, o, h2, _, h3⟩ b hb => by
    simp only [List.mem_cons, List.not_mem_nil, or_false] at hb
    rcases hb with rfl | rfl
    · exact ⟨_, h1, fun v z => by cases z⟩
    · exact ⟨_, h2, fun v z => by rw [h3] at z; cases z⟩
  keep := fun i h h' ⟨hi, ⟨old, h1⟩, o, h2, h3⟩ hk => ⟨hi, ⟨old, hk _ (by simp) _ h1⟩, o, hk _ (by simp) _ h2, h3⟩
  item := fun X hP hw hK hc i pins s σ H E I hf ht hg => by
    subst hP hw hK
    have G := GoesN.enumFrom (prog := X.prog) (w := X.w) (A := X.A) (elts := elts) (x1 := kk) (pos := tpos) k0 (Draws.text (A := X.A.in1) (I.ok.hd hc) it x t) e ne (by simpa using ne) (by simp)
    refine G.goes i s _ E hg ht.2 fun v h' tk hY hS hk htk => ?_
    obtain ⟨T, t2, u, rfl, hT, ⟨c, u2, hc2, rfl⟩, hI⟩ := hY
    have hfree : H T = none := I.hok.fresh hT
    refine ⟨.ref T, upd H T (.tup [.int (k0 + i), .str ⟨#[c]⟩]), ?_, rfl, ⟨T, c, rfl, hfree, rfl, hc2⟩, ⟨hg, hS⟩, fun b hb => ?_⟩
    · refine I.turnedNew (ch := [e, it]) hk hf hT ?_
      exact ⟨by simp [sizeLine], _, .cons ⟨_, rfl⟩ (.cons ⟨_, rfl⟩ .nil), hI⟩
    · have hb2 : b < s.heap.objs.size := by
        obtain ⟨_, ⟨old, h1⟩, o, h2, _⟩ := ht
        simp only [List.mem_cons, List.not_mem_nil, or_false] at hb
        rcases hb with rfl | rfl
        · exact Heap.lt_size h1
        · exact Heap.lt_size h2
      rw [upd_ne (Nat.ne_of_lt (Nat.lt_of_lt_of_le hb2 hT))]
      exact (hf b hb).1
  done := fun X hP hw hK hc i pins s σ H E I hf ht hs => by
    subst hP hw hK
    have G := GoesN.enumFrom (prog := X.prog) (w := X.w) (A := X.A) (elts := elts) (x1 := kk) (pos := tpos) k0 (Draws.text (A := X.A.in1) (I.ok.hd hc) it x t) e ne (by simpa using ne) (by simp)
    obtain rfl : i = x.cps.size := Nat.le_antisymm ht.1 hs
    exact G.stops s _ E ht.2 fun h' tk hk htk => I.turnedL hk hf
  self := fun A i s Q E ht q => by
    obtain ⟨_, ⟨old, h1⟩, _⟩ := ht
    exact wpAny_pyIter_enum h1 q
theorem callWith_type_kw {M : Model} {A : Around} {E : Value → Shared → Prop} {s : Shared} {pos : Pos} {T : String} {first : List Value} {args : List (Bool × Sem Value)} {keywords : List (Option Str × Sem Value)} {Q : Value → Shared → Prop}
    (hp : (args.any (·.1) || keywords.any (·.1.isNone)) = false) (h : wpAny M A (evalArgs (.type T) true args keywords) (fun a s1 => wpAny M A (call (.type T) (first ++ a.pos) a.kw) Q E s1) E s) :
    wpAny M A (callWith pos (.type T) first args keywords) Q E s := by
  unfold callWith
  refine wpAny_bind (wpAny_holding (thn h fun a s1 h1 => ?_))
  refine wpAny_bind (wpAny_standAt ?_)
  rw [hp]
  refine wpAny_bind (wpAny_pure ?_)
  refine wpAny_bind (thn h1 fun v s2 q => ?_)
  exact wpAny_bind (wpAny_holding (wpAny_point (wpAny_pure q)))
/-- enumerate(text, start=k0) -/
def iEnX (K : PySem.W.Frag) (ta tk : TA) : TI := fun σ H R => ta σ H fun vs H1 => tk σ H1 fun zs H2 => ∃ x k, vs = [.str x] ∧ zs = [.int k] ∧ -2 ^ 63 ≤ k ∧ k < 2 ^ 63 ∧ R (ItEX k x) H2
theorem pi_enumX {X : Cx} {e : Expr} {kws : List Keyword} {ta tk : TA} {p pos tpos : Pos} {elts : List Expr} {kk : Nat} (hg : Gl X "enumerate") (hm : X.mg "enumerate" = none) (ha : PA X [e] ta) (hk : PK X kws tk)
    (hall : (backToKw pos (keywordEach kws X.env)).all (·.1.isSome) = true := by rfl) (hks : (backToKw pos (keywordEach kws X.env)).filterMap (·.1) = [("start" : Str)] := by rfl)
    (hpl : ((backTo pos (starEach [e] X.env)).any (·.1) || (backToKw pos (keywordEach kws X.env)).any (·.1.isNone)) = false := by rfl)
    (hst : starEach [e] X.env = [(false, eval e X.env)] := by rfl) :
    PI X (.Tuple elts kk tpos) (.Call (.Name "enumerate" p) [e] kws pos) (iEnX X.K ta tk) := by
  refine ⟨fun pins s σ H R I h => ?_⟩
  refine wpAny_Call_Name_kw (ld_blt (u := .type "enumerate") I hg hm (by rfl) ?_)
  refine callWith_type_kw hpl (PyProof.Rows.evalArgs_kw2 hall ?_ hst)
  refine thn (ha.run pos pins s σ H _ I h) fun us s1 ⟨vs, H1, I1, r1, q1⟩ => ?_
  refine thn (hk.run pos pins s1 σ H1 _ I1 q1) fun ws s2 ⟨zs, H2, I2, r2, x, k, ev, ez, k1, k2, q⟩ => ?_
  subst ev ez
  rw [hks]
  obtain ⟨u, rfl, t, rfl⟩ := r1.one
  obtain ⟨u2, rfl, t2, rfl⟩ := r2.one
  refine enum_begins_start (begins_text x t) trivial k1 k2 fun h' hE hI hsz hk2 => ?_
  refine wpAny_pyIter_enum hE ?_
  have Hf : ∀ b, s2.heap.objs.size ≤ b → H2 b = none := fun b hb => I2.hok.fresh hb
  have ne : s2.heap.objs.size + 1 ≠ s2.heap.objs.size := Nat.succ_ne_self _
  refine ⟨_, [s2.heap.objs.size + 1, s2.heap.objs.size], _, _, H2, rfl, I2.kept (t' := s2.toks) hk2, turn_enumX k x t _ _ ne, ⟨Nat.zero_le _, ⟨_, by simpa using hE⟩, ⟨_, hI, rfl, rfl⟩⟩, fun b hb => ?_, q⟩
  simp only [List.mem_cons, List.not_mem_nil, or_false] at hb
  rcases hb with rfl | rfl
  · exact I2.fpOk (by omega) (Hf _ (by omega))
  · exact I2.fpOk (by omega) (Hf _ (by omega))
/-- zip(text, list) -/
def ItZX (K : PySem.W.Frag) (x : Str) (a : Addr) : It where
  go i H := i < x.cps.size ∧ ∃ ys y, SqL K H a ys ∧ ys[i]? = some y
  yld i H v H' := ∃ T c y, v = .ref T ∧ H T = none ∧ H' = upd H T (.tup [.str ⟨#[c]⟩, y]) ∧ x.cps[i]? = some c ∧ ∀ ys, SqL K H a ys → ys[i]? = some y
  stop i H := ∃ ys, SqL K H a ys ∧ i = min x.cps.size ys.length
structure Apart5 (z TI TO i1 i2 : Addr) : Prop where
  h1 : TI ≠ z
  h2 : TO ≠ z
  h3 : TI ≠ TO
  h4 : TI ≠ i1
  h5 : TI ≠ i2
  h6 : z ≠ i1
  h7 : z ≠ i2
  h8 : TO ≠ i1
  h9 : TO ≠ i2
  h10 : i1 ≠ i2
theorem zsep {h : Heap} {z TI TO i1 i2 a : Addr} {x : Str} {t : Tok} {i : Nat} {its : Array Value} {ty : String} (A : Apart5 z TI TO i1 i2) (hz : IsZip h z TI TO .none) (hT : ∃ a1 a2, IsTupOf2 h TO a1 a2) (hi : h.IsStrIter i1 (strIterType x) x t i) (hl : h.IsList a its) : ZipSep2 z TI TO i1 i2 [i1] [i2, a] := by
  obtain ⟨o, e, ec, _⟩ := hl
  have n1 : a ≠ z := fun q => by subst q; rw [hz] at e; cases e; exact absurd (Value.type.inj ec) (by decide)
  have n2 : a ≠ TO := fun q => by
    subst q
    obtain ⟨a1, a2, h2⟩ := hT
    rw [h2] at e; cases e; exact absurd (Value.type.inj ec) (by decide)
  have n3 : a ≠ i1 := fun q => by
    subst q
    obtain ⟨o2, h2, h3, _⟩ := hi
    rw [h2] at e
    cases e
    rw [ec] at h3
    unfold strIterType at h3
    split at h3 <;> exact absurd (Value.type.inj h3) (by decide)
  exact ⟨A.h1, A.h2, A.h3, A.h4, by simp, by simpa using A.h6, by simpa using A.h8, A.h5, by simp, by simpa using ⟨A.h7, n1.symm⟩, by simpa using ⟨A.h9, n2.symm⟩, by simpa using ⟨A.h10, n3.symm⟩, by simpa using A.h10.symm⟩
abbrev ZipX (x : Str) (t : Tok) (a z TI TO i1 i2 : Addr) (i : Nat) (h : Heap) : Prop := IsZip h z TI TO .none ∧ IsTupOf2 h TI (.ref i1) (.ref i2) ∧ (∃ a1 a2, IsTupOf2 h TO a1 a2) ∧ h.IsStrIter i1 (strIterType x) x t i ∧ h.IsListIter i2 a i
theorem turn_zipX {P : Program} {w : World} {K : PySem.W.Frag} {elts : List Expr} {kk : Nat} {tpos : Pos} (x : Str) (t : Tok) (a z TI TO i1 i2 : Addr) (A5 : Apart5 z TI TO i1 i2) :
    Turn P w K (.Tuple elts kk tpos) (ItZX K x a) [z, TI, TO, i1, i2] z (ZipX x t a z TI TO i1 i2) where
  mem := by simp
  obj := fun i h ⟨h1, h2, ⟨_, _, h3⟩, ⟨_, h4, _, h5⟩, ⟨_, h6, _, h7⟩⟩ b hb => by
    simp only [List.mem_cons, List.not_mem_nil, or_false] at hb
    rcases hb with rfl | rfl | rfl | rfl | rfl
    · exact ⟨_, h1, fun v z => by cases z⟩
    · exact ⟨_, h2, fun v z => by cases z⟩
    · exact ⟨_, h3, fun v z => by cases z⟩
    · exact ⟨_, h4, fun v z => by rw [h5] at z; cases z⟩
    · exact ⟨_, h6, fun v z => by rw [h7] at z; cases z⟩
  keep := fun i h h' ⟨h1, h2, ⟨_, _, h3⟩, ⟨_, h4, h5⟩, ⟨_, h6, h7⟩⟩ hk => ⟨hk _ (by simp) _ h1, hk _ (by simp) _ h2, ⟨_, _, hk _ (by simp) _ h3⟩, ⟨_, hk _ (by simp) _ h4, h5⟩, ⟨_, hk _ (by simp) _ h6, h7⟩⟩
  item := fun X hP hw hK hc i pins s σ H E I hf ht hg => by
    subst hP hw hK
    obtain ⟨h1, h2, h3, h4, h5⟩ := ht
    obtain ⟨hg, ys, y, hy, hyi⟩ := hg
    obtain ⟨its, r, hl, _⟩ := I.list hy
    have Z := zsep (ty := "") A5 h1 h3 h4 hl.isList
    have G := GoesN.zip2 (prog := X.prog) (w := X.w) (A := X.A) (elts := elts) (x1 := kk) (pos := tpos) Z (Draws.text (A := X.A.in1) (I.ok.hd hc) i1 x t) (Draws.list (A := X.A.in1) (I.ok.hd hc) i2 a (by have := Z.sep2_1; intro q; subst q; obtain ⟨o, e, ec, _⟩ := h5; obtain ⟨o2, e2, ec2, _⟩ := hl.isList; rw [e] at e2; cases e2; rw [ec] at ec2; exact absurd (Value.type.inj ec2) (by decide)) its.toArray)
    have hlen : i < its.toArray.size := by
      rw [List.size_toArray, ← r.length]
      exact (List.getElem?_eq_some_iff.mp hyi).1
    refine G.goes i s _ E (by omega) ⟨h1, h2, h3, h4, h5, hl.isList⟩ fun v h' tk hY hS hk htk => ?_
    obtain ⟨T, u, v2, rfl, hT, ⟨c, u2, hc2, rfl⟩, hv2, hI⟩ := hY
    have hfree : H T = none := I.hok.fresh hT
    obtain ⟨v3, e3, r3⟩ := r.get hyi
    have e4 : its.toArray[i]? = some v3 := by rw [List.getElem?_toArray]; exact e3
    obtain rfl : v2 = v3 := Option.some.inj (hv2.symm.trans e4)
    refine ⟨.ref T, upd H T (.tup [.str ⟨#[c]⟩, y]), ?_, rfl, ⟨T, c, y, rfl, hfree, rfl, hc2, fun ys2 hy2 => ?_⟩, ⟨hS.1, hS.2.1, hS.2.2.1, hS.2.2.2.1, hS.2.2.2.2.1⟩, fun b hb => ?_⟩
    · refine I.turnedNew (ch := [z, TO, i1, i2]) hk (fun b hb => hf b (by simp only [List.mem_cons, List.not_mem_nil, or_false] at hb ⊢; rcases hb with q | q | q | q <;> simp [q])) hT ?_
      exact ⟨by simp [sizeLine], _, .cons ⟨_, rfl⟩ (.cons r3 .nil), hI⟩
    · obtain ⟨its2, r2, hl2, _⟩ := I.list hy2
      obtain ⟨o, e, _, n, ed⟩ := hl.isList
      obtain ⟨o2, e2, _, n2, ed2⟩ := hl2.isList
      rw [e] at e2
      cases e2
      rw [ed] at ed2
      have e5 : its = its2 := by
        have := (Data.seq.inj ed2).1
        exact Array.mk.inj this
      subst e5
      rw [r2.inj r]
      exact hyi
    · have hb2 : b < s.heap.objs.size := by
        obtain ⟨_, _, h3⟩ := h3
        obtain ⟨_, h4, _⟩ := h4
        obtain ⟨_, h5, _⟩ := h5
        simp only [List.mem_cons, List.not_mem_nil, or_false] at hb
        rcases hb with rfl | rfl | rfl | rfl | rfl
        · exact Heap.lt_size h1
        · exact Heap.lt_size h2
        · exact Heap.lt_size h3
        · exact Heap.lt_size h4
        · exact Heap.lt_size h5
      rw [upd_ne (Nat.ne_of_lt (Nat.lt_of_lt_of_le hb2 hT))]
      exact (hf b hb).1
  done := fun X hP hw hK hc i pins s σ H E I hf ht hs => by
    subst hP hw hK
    obtain ⟨h1, h2, h3, h4, h5⟩ := ht
    obtain ⟨ys, hy, e⟩ := hs
    obtain ⟨its, r, hl, _⟩ := I.list hy
    have Z := zsep (ty := "") A5 h1 h3 h4 hl.isList
    have G := GoesN.zip2 (prog := X.prog) (w := X.w) (A := X.A) (elts := elts) (x1 := kk) (pos := tpos) Z (Draws.text (A := X.A.in1) (I.ok.hd hc) i1 x t) (Draws.list (A := X.A.in1) (I.ok.hd hc) i2 a (by have := Z.sep2_1; intro q; subst q; obtain ⟨o, e, ec, _⟩ := h5; obtain ⟨o2, e2, ec2, _⟩ := hl.isList; rw [e] at e2; cases e2; rw [ec] at ec2; exact absurd (Value.type.inj ec2) (by decide)) its.toArray)
    have e1 : its.toArray.size = ys.length := by rw [List.size_toArray, r.length]
    have e2 : i = min x.cps.size its.toArray.size := by rw [e1]; exact e
    subst e2
    exact G.stops s _ E ⟨h1, h2, h3, h4, h5, hl.isList⟩ fun h' tk hk htk => I.turnedL hk (fun b hb => hf b (by simp only [List.mem_cons, List.not_mem_nil, or_false] at hb ⊢; rcases hb with q | q | q | q <;> simp [q]))
  self := fun A i s Q E ht q => wpAny_pyIter_zip ht.1 q
def iZipX (K : PySem.W.Frag) (ta : TA) : TI := fun σ H R => ta σ H fun vs H1 => ∃ x a ys, vs = [.str x, .ref a] ∧ SqL K H1 a ys ∧ R (ItZX K x a) H1
theorem pi_zipX {X : Cx} {e e2 : Expr} {ta : TA} {p pos tpos : Pos} {elts : List Expr} {kk : Nat} (hg : Gl X "zip") (hm : X.mg "zip" = none) (ha : PA X [e, e2] ta)
    (hpl : ((backTo pos (starEach [e, e2] X.env)).any (·.1)) = false := by rfl)
    (hst : starEach [e, e2] X.env = (false, eval e X.env) :: starEach [e2] X.env := by rfl) :
    PI X (.Tuple elts kk tpos) (.Call (.Name "zip" p) [e, e2] [] pos) (iZipX X.K ta) := by
  refine ⟨fun pins s σ H R I h => ?_⟩
  refine wpAny_Call_NameR (ld_blt (u := .type "zip") I hg hm (by rfl) ?_)
  refine PyProof.Rows.callWith_type hpl (L2.FK.evalArgs_any hpl ?_)
  refine thn (ha.run pos pins s σ H _ I h) fun us s2 ⟨vs, H2, I2, r1, x, a, ys, ev, hy, q⟩ => ?_
  subst ev
  obtain ⟨u, u2, rfl, ⟨t, rfl⟩, rfl⟩ := r1.two
  obtain ⟨its, r, hl, _⟩ := I2.list hy
  refine zip_begins2 (begins_text x t) (begins_list a its.toArray) trivial hl.isList fun h' h1 h2 h3 h4 h5 hsz hk2 => ?_
  refine wpAny_pyIter_zip h1 ?_
  have Hf : ∀ b, s2.heap.objs.size ≤ b → H2 b = none := fun b hb => I2.hok.fresh hb
  have A5 : ∀ N : Nat, Apart5 (N + 4) (N + 2) (N + 3) N (N + 1) := fun N =>
    have f : ∀ {i j : Nat}, i ≠ j → (N + i ≠ N + j) := fun h q => h (Nat.add_left_cancel q)
    ⟨f (by decide), f (by decide), f (by decide), f (j := 0) (by decide), f (by decide), f (j := 0) (by decide), f (by decide), f (j := 0) (by decide), f (by decide), f (i := 0) (by decide)⟩
  refine ⟨_, _, _, _, H2, rfl, I2.kept (t' := s2.toks) hk2, turn_zipX x t a _ _ _ _ _ (A5 s2.heap.objs.size), ⟨h1, h2, ⟨_, _, h3⟩, ⟨_, h4, rfl, rfl⟩, ⟨_, h5, rfl, rfl⟩⟩, fun b hb => ?_, q⟩
  simp only [List.mem_cons, List.not_mem_nil, or_false] at hb
  rcases hb with rfl | rfl | rfl | rfl | rfl <;> exact I2.fpOk (by first | exact Nat.le_add_right _ _ | exact Nat.le_refl _) (Hf _ (by first | exact Nat.le_add_right _ _ | exact Nat.le_refl _))
end Tf

set_option Elab.async false
set_option linter.all false
set_option maxRecDepth 100000
set_option maxHeartbeats 2000000
/-! laws as the statements keep them: a list of (name, is it often, ways), ways a dict by the three fates -/
namespace Tf
open PySem PySem.Spec PyProof.Rows L2
theorem paired_get {α β : Type} {F : α → β → Prop} {l : List α} {m : List β} (h : Paired F l m) : ∀ {i : Nat} {y : β}, m[i]? = some y → ∃ x, l[i]? = some x ∧ F x y := by
  induction h with
  | nil => intro i y e; simp at e
  | cons hf _ ih =>
    intro i y e
    cases i with
    | zero => exact ⟨_, rfl, by simp at e; subst e; exact hf⟩
    | succ i => simp only [List.getElem?_cons_succ] at e ⊢; exact ih e
theorem paired_getL {α β : Type} {F : α → β → Prop} {l : List α} {m : List β} (h : Paired F l m) : ∀ {i : Nat} {x : α}, l[i]? = some x → ∃ y, m[i]? = some y ∧ F x y := by
  induction h with
  | nil => intro i y e; simp at e
  | cons hf _ ih =>
    intro i y e
    cases i with
    | zero => exact ⟨_, rfl, by simp at e; subst e; exact hf⟩
    | succ i => simp only [List.getElem?_cons_succ] at e ⊢; exact ih e
theorem Same.sql {K : PySem.W.Frag} {H H1 : Hp} (e : Same H H1) {b : Addr} {xs : List V} (h : SqL K H b xs) : SqL K H1 b xs := by
  rcases h with (h | ⟨o, h⟩) | h
  · exact .inl (.inl (e _ _ h))
  · exact .inl (.inr ⟨o, e _ _ h⟩)
  · exact .inr h
theorem take_snoc' {α : Type} {l : List α} {i : Nat} {x : α} (h : l[i]? = some x) : l.take (i + 1) = l.take i ++ [x] := by
  rw [List.take_add_one, h]; rfl
structure Row3 where
  nm : List Nat
  oft : Bool
  way : Nat → List Nat
def wK (w : Nat → List Nat) : List (Key × V) := [(.inr (S [110]), .str (S (w 110))), (.inr (S [102]), .str (S (w 102))), (.inr (S [115]), .str (S (w 115)))]
def RowAt (K : PySem.W.Frag) (H : Hp) (r : Row3) (t : Addr) : Prop := ∃ d, SqT K H t [.str (S r.nm), .bl r.oft, .ref d] ∧ H d = some (.dK (wK r.way))
def OwnAt (K : PySem.W.Frag) (H : Hp) (a : Addr) (rs : List Row3) : Prop := ∃ ts : List Addr, SqL K H a (ts.map V.ref) ∧ Paired (RowAt K H) rs ts
def WRow (H : Hp) (r : Row3) (kv : Key × V) : Prop := ∃ d, kv = (.inr (S r.nm), .ref d) ∧ H d = some (.dK (wK r.way))
def WaysAt (H : Hp) (p : Addr) (rs : List Row3) : Prop := ∃ kvs, H p = some (.dK kvs) ∧ Paired (WRow H) rs kvs
section
variable {K : PySem.W.Frag} {H H1 : Hp} {r : Row3} {t a : Addr} {rs : List Row3}
theorem RowAt.same (e : Same H H1) (h : RowAt K H r t) : RowAt K H1 r t := by
  obtain ⟨d, h1, h2⟩ := h
  exact ⟨d, Same.sqt e h1, e _ _ h2⟩
theorem OwnAt.same (e : Same H H1) (h : OwnAt K H a rs) : OwnAt K H1 a rs := by
  obtain ⟨ts, h1, h2⟩ := h
  exact ⟨ts, Same.sql e h1, h2.mono fun _ _ h => h.same e⟩
theorem WRow.same {kv : Key × V} (e : Same H H1) (h : WRow H r kv) : WRow H1 r kv := by
  obtain ⟨d, h1, h2⟩ := h
  exact ⟨d, h1, e _ _ h2⟩
theorem WaysAt.same (e : Same H H1) (h : WaysAt H a rs) : WaysAt H1 a rs := by
  obtain ⟨kvs, h1, h2⟩ := h
  exact ⟨kvs, e _ _ h1, h2.mono fun _ _ h => h.same e⟩
def rowOf (rs : List Row3) (nm : List Nat) : Option Row3 := rs.find? fun r => decide (r.nm = nm)
def toF (rs : List Row3) (s : List Nat) (c : Nat) : List Nat := ((rowOf rs s).map fun r => r.way c).getD []
theorem valV_cons {κ : Type} [DecidableEq κ] {k q : κ} {v : V} {kvs : List (κ × V)} : valV ((k, v) :: kvs) q = if k = q then some v else valV kvs q := by
  unfold valV
  rw [List.find?_cons]
  by_cases h : k = q
  · simp [h]
  · simp [h]
theorem ways_get {kvs : List (Key × V)} (h : Paired (WRow H) rs kvs) {nm : List Nat} {r : Row3} (e : rowOf rs nm = some r) : ∃ d, valV kvs (.inr (S nm)) = some (.ref d) ∧ H d = some (.dK (wK r.way)) := by
  induction h with
  | nil => cases e
  | @cons r0 kv rs kvs hf _ ih =>
    obtain ⟨d, rfl, hd⟩ := hf
    unfold rowOf at e
    rw [List.find?_cons] at e
    rw [valV_cons]
    by_cases h : r0.nm = nm
    · rw [decide_eq_true h] at e
      cases e
      exact ⟨d, by rw [h, if_pos rfl], hd⟩
    · rw [decide_eq_false h] at e
      rw [if_neg (fun z => h (S_iff.mp (congrArg V.str (Sum.inr.inj z))))]
      exact ih e
theorem wK_get (w : Nat → List Nat) {c : Nat} (hc : c = 110 ∨ c = 102 ∨ c = 115) : valV (wK w) (.inr (S [c])) = some (.str (S (w c))) := by
  have n : ∀ {x y : Nat}, x ≠ y → ¬ (Sum.inr (S [x]) : Key) = Sum.inr (S [y]) := fun h z => h (by have := S_iff.mp (congrArg V.str (Sum.inr.inj z)); simpa using this)
  unfold wK
  rcases hc with rfl | rfl | rfl
  · rw [valV_cons, if_pos rfl]
  · rw [valV_cons, if_neg (n (by decide)), valV_cons, if_pos rfl]
  · rw [valV_cons, if_neg (n (by decide)), valV_cons, if_neg (n (by decide)), valV_cons, if_pos rfl]
theorem merge_from : ∀ (more kvs : List (Key × V)), ((kvs ++ more).map (·.1)).Nodup → mergeK kvs more = kvs ++ more
  | [], kvs, _ => by rw [List.append_nil]; rfl
  | (k, v) :: more, kvs, h => by
    have hn : valV kvs k = none := by
      unfold valV
      rw [Option.map_eq_none_iff, List.find?_eq_none]
      intro x hx
      simp only [decide_eq_true_eq]
      intro z
      rw [List.map_append, List.nodup_append] at h
      exact h.2.2 _ (List.mem_map.mpr ⟨x, hx, rfl⟩) _ (List.mem_map.mpr ⟨(k, v), by simp, rfl⟩) z
    show mergeK (putK kvs k v) more = _
    rw [putK_new v hn, merge_from more _ (by rw [List.append_assoc]; exact h), List.append_assoc]
    rfl
theorem merge_all {kvs : List (Key × V)} (h : (kvs.map (·.1)).Nodup) : mergeK [] kvs = kvs := merge_from kvs [] h
theorem ways_keys {kvs : List (Key × V)} (h : Paired (WRow H) rs kvs) : kvs.map (·.1) = rs.map fun r => Sum.inr (S r.nm) := by
  induction h with
  | nil => rfl
  | cons hf _ ih =>
    obtain ⟨d, rfl, hd⟩ := hf
    rw [List.map_cons, List.map_cons, ih]
def Uniq (rs : List Row3) : Prop := (rs.map (·.nm)).Nodup
theorem ways_nodup {kvs : List (Key × V)} (h : Paired (WRow H) rs kvs) (u : Uniq rs) : (kvs.map (·.1)).Nodup := by
  rw [ways_keys h, show (rs.map fun r => (Sum.inr (S r.nm) : Key)) = (rs.map (·.nm)).map fun l => Sum.inr (S l) by rw [List.map_map]; rfl]
  exact List.Pairwise.map _ (fun a b h z => h (S_iff.mp (congrArg V.str (Sum.inr.inj z)))) u
end
/-! ### going -/
def Closed (rs : List Row3) : Prop := ∀ r ∈ rs, ∀ c, (c = 110 ∨ c = 102 ∨ c = 115) → r.way c ∈ rs.map (·.nm)
def runF (rs : List Row3) (s : List Nat) (w : List Nat) : List Nat := w.foldl (toF rs) s
def firstOf (rs : List Row3) : List Nat := (rs.head?.map (·.nm)).getD []
section
variable {rs : List Row3} {s : List Nat} {r : Row3} {c : Nat} {H : Hp} {p : Addr}
theorem rowOf_mem (h : s ∈ rs.map (·.nm)) : ∃ r, rowOf rs s = some r ∧ r ∈ rs ∧ r.nm = s := by
  obtain ⟨r0, h0, e0⟩ := List.mem_map.mp h
  cases e : rowOf rs s with
  | none =>
    unfold rowOf at e
    rw [List.find?_eq_none] at e
    have := e r0 h0
    simp [e0] at this
  | some r =>
    refine ⟨r, rfl, List.mem_of_find?_eq_some e, ?_⟩
    have := List.find?_some e
    simpa using this
theorem toF_eq (h : rowOf rs s = some r) : toF rs s c = r.way c := by unfold toF; rw [h]; rfl
theorem toF_mem (hc : Closed rs) (h : s ∈ rs.map (·.nm)) (hl : c = 110 ∨ c = 102 ∨ c = 115) : toF rs s c ∈ rs.map (·.nm) := by
  obtain ⟨r, e, hr, _⟩ := rowOf_mem h
  rw [toF_eq e]
  exact hc r hr c hl
theorem runF_snoc {w : List Nat} : runF rs s (w ++ [c]) = toF rs (runF rs s w) c := by unfold runF; rw [List.foldl_append]; rfl
theorem runF_app {w v : List Nat} : runF rs s (w ++ v) = runF rs (runF rs s w) v := by unfold runF; rw [List.foldl_append]
theorem runF_mem (hc : Closed rs) {w : List Nat} (hw : Wd w) : ∀ {s : List Nat}, s ∈ rs.map (·.nm) → runF rs s w ∈ rs.map (·.nm) := by
  induction w with
  | nil => intro s h; exact h
  | cons x w ih =>
    intro s h
    exact ih (fun c hc => hw c (List.mem_cons_of_mem _ hc)) (toF_mem hc h (hw x (List.mem_cons_self ..)))
theorem first_mem (h : rs ≠ []) : firstOf rs ∈ rs.map (·.nm) := by
  cases rs with
  | nil => exact absurd rfl h
  | cons r rs => exact List.mem_map.mpr ⟨r, by simp, rfl⟩
theorem first_ix (h : rs ≠ []) : ∃ r, rs[0]? = some r ∧ r.nm = firstOf rs := by
  cases rs with
  | nil => exact absurd rfl h
  | cons r rs => exact ⟨r, rfl, rfl⟩
theorem ways_step (hw : WaysAt H p rs) (hs : s ∈ rs.map (·.nm)) (hl : c = 110 ∨ c = 102 ∨ c = 115) : ∃ d, DGet H p (.str (S s)) (some (.ref d)) ∧ DGet H d (.str (S [c])) (some (.str (S (toF rs s c)))) := by
  obtain ⟨kvs, h1, h2⟩ := hw
  obtain ⟨r, e, _, _⟩ := rowOf_mem hs
  obtain ⟨d, h3, h4⟩ := ways_get h2 e
  refine ⟨d, ?_, ?_⟩
  · rw [← h3]; exact DGet.k (k := .inr (S s)) h1
  · rw [toF_eq e, ← wK_get r.way hl]; exact DGet.k (k := .inr (S [c])) h4
end
/-! ### often again -/
def oftF (rs : List Row3) (s : List Nat) : Bool := ((rowOf rs s).map (·.oft)).getD false
def oftens (rs : List Row3) : List (List Nat) := (rs.filter (·.oft)).map (·.nm)
def hits (rs : List Row3) (s w : List Nat) : Bool := decide (∃ i, i < w.length ∧ oftF rs (runF rs s (w.take (i + 1))) = true)
def repW (n : Nat) (c : List Nat) : List Nat := (List.replicate n c).flatten
def letsF (rs : List Row3) (h c : List Nat) : Bool := hits rs (runF rs (firstOf rs) (h ++ repW rs.length c)) (repW rs.length c)
section
variable {rs : List Row3} {s w : List Nat} {r : Row3} {c : Nat}
theorem repW_succ {n : Nat} {c : List Nat} : repW (n + 1) c = repW n c ++ c := by
  unfold repW
  rw [List.replicate_succ', List.flatten_append]
  simp
theorem repW_len {n : Nat} {c : List Nat} : (repW n c).length = n * c.length := by unfold repW; simp
theorem repW_wd {n : Nat} {c : List Nat} (h : Wd c) : Wd (repW n c) := by
  intro x hx
  unfold repW at hx
  obtain ⟨l, hl, hx⟩ := List.mem_flatten.mp hx
  rw [List.eq_of_mem_replicate hl] at hx
  exact h x hx
theorem repW_pre {n m : Nat} {c : List Nat} (h : m ≤ n) : repW m c <+: repW n c := by
  induction n with
  | zero => obtain rfl : m = 0 := by omega
            exact List.prefix_refl _
  | succ n ih =>
    by_cases e : m = n + 1
    · subst e; exact List.prefix_refl _
    · exact (ih (by omega)).trans (by rw [repW_succ]; exact List.prefix_append ..)
theorem hits_nil : hits rs s [] = false := by unfold hits; simp
theorem hits_snoc : hits rs s (w ++ [c]) = (hits rs s w || oftF rs (runF rs s (w ++ [c]))) := by
  rw [Bool.eq_iff_iff]
  simp only [hits, Bool.or_eq_true, decide_eq_true_eq, List.length_append, List.length_cons, List.length_nil]
  constructor
  · rintro ⟨i, hi, h⟩
    by_cases e : i = w.length
    · subst e
      rw [List.take_of_length_le (by simp)] at h
      exact .inr h
    · refine .inl ⟨i, by omega, ?_⟩
      rw [List.take_append_of_le_length (by omega)] at h
      exact h
  · rintro (⟨i, hi, h⟩ | h)
    · exact ⟨i, by omega, by rw [List.take_append_of_le_length (by omega)]; exact h⟩
    · exact ⟨w.length, by omega, by rw [List.take_of_length_le (by simp)]; exact h⟩
theorem hits_pre {v : List Nat} (p : w <+: v) (h : hits rs s w = true) : hits rs s v = true := by
  obtain ⟨u, rfl⟩ := p
  unfold hits at h ⊢
  rw [decide_eq_true_eq] at h ⊢
  obtain ⟨i, hi, h⟩ := h
  exact ⟨i, by rw [List.length_append]; omega, by rw [List.take_append_of_le_length (by omega)]; exact h⟩
theorem mem_oftens (u : Uniq rs) : s ∈ oftens rs ↔ oftF rs s = true := by
  unfold oftens oftF rowOf
  induction rs with
  | nil => simp
  | cons r rs ih =>
    have u2 : Uniq rs := (List.nodup_cons.mp u).2
    have u1 : r.nm ∉ rs.map (·.nm) := (List.nodup_cons.mp u).1
    have ih := ih u2
    rw [List.find?_cons]
    by_cases e : r.nm = s
    · rw [decide_eq_true e]
      subst e
      simp only [Option.map_some, Option.getD_some]
      rw [List.filter_cons]
      constructor
      · intro h
        cases ho : r.oft with
        | true => rfl
        | false =>
          rw [ho, if_neg Bool.false_ne_true] at h
          exfalso
          apply u1
          obtain ⟨q, hq, e⟩ := List.mem_map.mp h
          exact List.mem_map.mpr ⟨q, (List.mem_filter.mp hq).1, e⟩
      · intro h
        rw [h, if_pos rfl]
        simp
    · rw [decide_eq_false e]
      simp only
      rw [← ih, List.filter_cons]
      cases ho : r.oft with
      | true => rw [if_pos rfl, List.map_cons, List.mem_cons]; exact ⟨fun h => h.elim (fun z => absurd z.symm e) id, .inr⟩
      | false => rw [if_neg Bool.false_ne_true]
end
/-! ### readings -/
theorem r_dget {td ty : TE} {σ : L2.St} {H : Hp} {Q : VK} (h : td σ H fun x H1 => ty σ H1 fun y H2 => ∃ a v, x = .ref a ∧ DGet H2 a y (some v) ∧ Q v H2) : tDGet td ty σ H Q := h
theorem r_dg {a : Addr} {y v : V} {H : Hp} {Q : VK} (h : DGet H a y (some v)) (q : Q v H) : ∃ a0 v0, V.ref a = .ref a0 ∧ DGet H a0 y (some v0) ∧ Q v0 H := ⟨a, v, rfl, h, q⟩
theorem inV_names {s : List Nat} {ls : List (List Nat)} : inV (.str (S s)) (ls.map fun l => V.str (S l)) = decide (s ∈ ls) := by
  unfold inV
  rw [Bool.eq_iff_iff, decide_eq_true_eq, List.any_eq_true]
  constructor
  · rintro ⟨y, hy, h⟩
    obtain ⟨l, hl, rfl⟩ := List.mem_map.mp hy
    have e : (decide (S l = S s)) = true := h
    rw [← S_inj (of_decide_eq_true e)]
    exact hl
  · intro h
    exact ⟨_, List.mem_map.mpr ⟨s, h, rfl⟩, by show decide (S s = S s) = true; exact decide_eq_true rfl⟩
theorem r_inNm {K : PySem.W.Frag} {H : Hp} {Q : VK} {p : Addr} {s : List Nat} {ls : List (List Nat)} (hs : SqL K H p (ls.map fun l => V.str (S l)) ∨ SqT K H p (ls.map fun l => V.str (S l))) (q : Q (.bl (decide (s ∈ ls))) H) : rIn K false (.str (S s)) (.ref p) H Q := by
  refine ⟨p, _, rfl, hs, rfl, ?_, ?_⟩
  · rw [List.all_eq_true]
    intro x hx
    obtain ⟨l, _, rfl⟩ := List.mem_map.mp hx
    rfl
  · rw [if_neg Bool.false_ne_true, inV_names]
    exact q
theorem r_notInNm {K : PySem.W.Frag} {H : Hp} {Q : VK} {p : Addr} {s : List Nat} {ls : List (List Nat)} (hs : SqL K H p (ls.map fun l => V.str (S l)) ∨ SqT K H p (ls.map fun l => V.str (S l))) (q : Q (.bl (!decide (s ∈ ls))) H) : rIn K true (.str (S s)) (.ref p) H Q := by
  refine ⟨p, _, rfl, hs, rfl, ?_, ?_⟩
  · rw [List.all_eq_true]
    intro x hx
    obtain ⟨l, _, rfl⟩ := List.mem_map.mp hx
    rfl
  · rw [if_pos rfl, inV_names]
    exact q
/-! ### rows that stand in H -/
def RowH (H : Hp) (r : Row3) (t : Addr) : Prop := ∃ d, H t = some (.tup [.str (S r.nm), .bl r.oft, .ref d]) ∧ H d = some (.dK (wK r.way))
def OwnH (H : Hp) (p : Addr) (rs : List Row3) : Prop := ∃ ts : List Addr, H p = some (.lst (ts.map V.ref)) ∧ Paired (RowH H) rs ts
section
variable {K : PySem.W.Frag} {H H1 : Hp} {r : Row3} {t p a : Addr} {rs : List Row3} {c : Int}
theorem RowH.s (h : RowH H r t) : RowAt K H r t := by
  obtain ⟨d, h1, h2⟩ := h
  exact ⟨d, SqT.of h1, h2⟩
theorem OwnH.s (h : OwnH H p rs) : OwnAt K H p rs := by
  obtain ⟨ts, h1, h2⟩ := h
  exact ⟨ts, SqL.of h1, h2.mono fun _ _ h => h.s⟩
theorem RowH.same (e : Same H H1) (h : RowH H r t) : RowH H1 r t := by
  obtain ⟨d, h1, h2⟩ := h
  exact ⟨d, e _ _ h1, e _ _ h2⟩
theorem OwnH.same (e : Same H H1) (h : OwnH H p rs) : OwnH H1 p rs := by
  obtain ⟨ts, h1, h2⟩ := h
  exact ⟨ts, e _ _ h1, h2.mono fun _ _ h => h.same e⟩
theorem RowH.but (e : But a H H1) (hP : PotAt H a c) (h : RowH H r t) : RowH H1 r t := by
  obtain ⟨own, sd, n, hA, _⟩ := hP
  obtain ⟨d, h1, h2⟩ := h
  exact ⟨d, e _ _ (fun z => by subst z; rw [hA] at h1; cases h1) h1, e _ _ (fun z => by subst z; rw [hA] at h2; cases h2) h2⟩
theorem OwnH.ne (hP : PotAt H a c) (h : OwnH H p rs) : p ≠ a := by
  obtain ⟨own, sd, n, hA, _⟩ := hP
  obtain ⟨ts, h1, h2⟩ := h
  rintro rfl
  rw [hA] at h1
  have e := HO.lst.inj (Option.some.inj h1)
  cases ts with
  | nil => cases e
  | cons t ts => cases e
theorem OwnH.but (e : But a H H1) (hP : PotAt H a c) (h : OwnH H p rs) : OwnH H1 p rs := by
  have n := h.ne hP
  obtain ⟨ts, h1, h2⟩ := h
  exact ⟨ts, e _ _ n h1, h2.mono fun _ _ h => h.but e hP⟩
end
def nmL (n : Nat) : List (List Nat) := [[97], [98], [99], [100], [101], [102]].take n
/-- the statement's own law -/
structure Law3 (rs : List Row3) : Prop where
  ne : rs ≠ []
  len : rs.length ≤ 6
  nms : rs.map (·.nm) = nmL rs.length
  cl : Closed rs
theorem nmL_nodup (n : Nat) : (nmL n).Nodup := List.Sublist.nodup (List.take_sublist ..) (by decide)
theorem Law3.u {rs : List Row3} (h : Law3 rs) : Uniq rs := by unfold Uniq; rw [h.nms]; exact nmL_nodup _
theorem nmL_cut {d : Int} (d0 : 0 ≤ d) (d6 : d < 6) : ∃ n : Nat, (1 + d).toNat = n ∧ 1 ≤ n ∧ n ≤ 6 ∧ cutV [V.str (S [97]), .str (S [98]), .str (S [99]), .str (S [100]), .str (S [101]), .str (S [102])] none (some (1 + d)) = (nmL n).map fun l => V.str (S l) := by
  have : d = 0 ∨ d = 1 ∨ d = 2 ∨ d = 3 ∨ d = 4 ∨ d = 5 := by omega
  rcases this with rfl | rfl | rfl | rfl | rfl | rfl <;> exact ⟨_, rfl, by decide, by decide, rfl⟩
theorem nmL_len {n : Nat} (h : n ≤ 6) : (nmL n).length = n := by unfold nmL; rw [List.length_take]; simp; omega
theorem kvs_three {n : Nat} {kvs : List (Key × V)} (h : Paired (fun c kv => ∃ w : List Nat, w ∈ nmL n ∧ kv = (Sum.inr (S [c]), V.str (S w))) [110, 102, 115] kvs) : ∃ f : Nat → List Nat, (∀ c, c = 110 ∨ c = 102 ∨ c = 115 → f c ∈ nmL n) ∧ kvs = wK f ∧ mergeK [] kvs = kvs := by
  cases h with
  | cons h1 h =>
    cases h with
    | cons h2 h =>
      cases h with
      | cons h3 h =>
        cases h
        obtain ⟨w1, m1, rfl⟩ := h1
        obtain ⟨w2, m2, rfl⟩ := h2
        obtain ⟨w3, m3, rfl⟩ := h3
        refine ⟨fun c => if c = 110 then w1 else if c = 102 then w2 else w3, ?_, rfl, ?_⟩
        · rintro c (rfl | rfl | rfl)
          · exact m1
          · exact m2
          · exact m3
        · refine merge_all ?_
          have n : ∀ {x y : Nat}, x ≠ y → ¬ (Sum.inr (S [x]) : Key) = Sum.inr (S [y]) := fun h z => h (by have := S_iff.mp (congrArg V.str (Sum.inr.inj z)); simpa using this)
          simp only [List.map_cons, List.map_nil, List.nodup_cons, List.mem_cons, List.not_mem_nil, or_false, not_or, List.nodup_nil, not_false_eq_true, and_true]
          exact ⟨⟨n (by decide), n (by decide)⟩, n (by decide)⟩
/-- what stands while rows are made -/
structure Mk3 (a p2 F : Addr) (L : List V) (rs : List Row3) (ts : List Addr) (H X : Hp) : Prop where
  b : But a H X
  l : X p2 = some (.lst L)
  f : X F = some (.lst (ts.map V.ref))
  r : Paired (RowH X) rs ts
section
variable {a p2 F D : Addr} {L : List V} {rs : List Row3} {ts : List Addr} {H X Y : Hp} {q : Int}
theorem Mk3.keepA (m : Mk3 a p2 F L rs ts H X) (na : p2 ≠ a) (nf : F ≠ a) (hP : PotAt X a q) (e : But a X Y) : Mk3 a p2 F L rs ts H Y :=
  ⟨m.b.trans e, e _ _ na m.l, e _ _ nf m.f, m.r.mono fun _ _ h => h.but e hP⟩
theorem Mk3.keepS (m : Mk3 a p2 F L rs ts H X) (e : Same X Y) : Mk3 a p2 F L rs ts H Y :=
  ⟨m.b.trans (But.of e), e _ _ m.l, e _ _ m.f, m.r.mono fun _ _ h => h.same e⟩
theorem RowH.lst {r : Row3} {t : Addr} {xs ys : List V} (hD : X D = some (.lst xs)) (h : RowH X r t) : RowH (upd X D (.lst ys)) r t := by
  obtain ⟨d, h1, h2⟩ := h
  exact ⟨d, by rw [upd_ne (fun z => by subst z; rw [hD] at h1; cases h1)]; exact h1, by rw [upd_ne (fun z => by subst z; rw [hD] at h2; cases h2)]; exact h2⟩
theorem Mk3.keepD {xs ys : List V} (m : Mk3 a p2 F L rs ts H X) (h0 : H D = none) (n1 : D ≠ p2) (n2 : D ≠ F) (hD : X D = some (.lst xs)) : Mk3 a p2 F L rs ts H (upd X D (.lst ys)) :=
  ⟨m.b.mut h0, by rw [upd_ne n1.symm]; exact m.l, by rw [upd_ne n2.symm]; exact m.f, m.r.mono fun _ _ h => h.lst hD⟩
theorem PotAt.lst {c : Int} {xs ys : List V} (h : PotAt X a c) (n : D ≠ a) : PotAt (upd X D (.lst ys)) a c := h.ne n
end
/-! ### the text of a law -/
def stL (r : Row3) : List Nat := [115, 116, 97, 116, 101, 32] ++ r.nm ++ (if r.oft then [32, 111, 102, 116, 101, 110] else [])
def onL (c : Nat) (w : List Nat) : List Nat := [111, 110, 32] ++ [c] ++ [32] ++ w
def rowL (r : Row3) : List (List Nat) := [stL r, onL 110 (r.way 110), onL 102 (r.way 102), onL 115 (r.way 115)]
def linesF (rs : List Row3) : List (List Nat) := [108, 97, 119] :: rs.flatMap rowL
def textF (rs : List Row3) : Str := Txt.join (S [10]) ((linesF rs).map S)
theorem nmL_one {n : Nat} {l : List Nat} (h : l ∈ nmL n) : l.length = 1 ∧ ∃ c, l = [c] ∧ 97 ≤ c ∧ c ≤ 102 := by
  have := List.mem_of_mem_take h
  simp only [List.mem_cons, List.not_mem_nil, or_false] at this
  rcases this with rfl | rfl | rfl | rfl | rfl | rfl <;> exact ⟨rfl, _, rfl, by decide, by decide⟩
theorem Law3.nm1 {rs : List Row3} (h : Law3 rs) {r : Row3} (hr : r ∈ rs) : r.nm ∈ nmL rs.length := by rw [← h.nms]; exact List.mem_map.mpr ⟨r, hr, rfl⟩
theorem Law3.way1 {rs : List Row3} (h : Law3 rs) {r : Row3} (hr : r ∈ rs) {c : Nat} (hc : c = 110 ∨ c = 102 ∨ c = 115) : r.way c ∈ nmL rs.length := by rw [← h.nms]; exact h.cl r hr c hc
theorem linesF_snoc {rs : List Row3} {r : Row3} : linesF (rs ++ [r]) = linesF rs ++ rowL r := by unfold linesF; simp
theorem linesF_len {rs : List Row3} : (linesF rs).length = 1 + 4 * rs.length := by
  unfold linesF
  rw [List.length_cons]
  induction rs with
  | nil => rfl
  | cons r rs ih => rw [List.flatMap_cons, List.length_append, List.length_cons]; simp only [rowL, List.length_cons, List.length_nil]; omega
theorem linesF_short {rs : List Row3} (h : Law3 rs) {l : List Nat} (hl : l ∈ linesF rs) : l.length ≤ 13 := by
  unfold linesF at hl
  rcases List.mem_cons.mp hl with rfl | hl
  · decide
  · obtain ⟨r, hr, hl⟩ := List.mem_flatMap.mp hl
    have n1 := (nmL_one (h.nm1 hr)).1
    have w : ∀ c, c = 110 ∨ c = 102 ∨ c = 115 → (r.way c).length = 1 := fun c hc => (nmL_one (h.way1 hr hc)).1
    simp only [rowL, List.mem_cons, List.not_mem_nil, or_false] at hl
    rcases hl with rfl | rfl | rfl | rfl
    · unfold stL
      simp only [List.length_append, n1]
      cases r.oft <;> simp
    · have := w 110 (.inl rfl); simp [onL, this]
    · have := w 102 (.inr (.inl rfl)); simp [onL, this]
    · have := w 115 (.inr (.inr rfl)); simp [onL, this]
theorem r_iteS {b : Bool} {l m : List Nat} {σ : L2.St} {H : Hp} {Q : VK} (h : Q (.str (S (if b then l else m))) H) : if b = true then tC (.str (S l)) σ H Q else tC (.str (S m)) σ H Q := by
  cases b
  · rw [if_neg Bool.false_ne_true] at h ⊢; exact h
  · rw [if_pos rfl] at h ⊢; exact h
theorem sum_short {B : Nat} : ∀ ls : List (List Nat), (∀ l ∈ ls, l.length ≤ B) → ((ls.map S).map fun x : Str => x.length).sum ≤ B * ls.length
  | [], _ => by simp
  | l :: ls, h => by
    have h1 := h l (List.mem_cons_self ..)
    have h2 := sum_short ls fun x hx => h x (List.mem_cons_of_mem _ hx)
    simp only [List.map_cons, List.sum_cons, List.length_cons, S_len, Nat.mul_add, Nat.mul_one]
    omega
/-! ### what is reached -/
theorem nodup_le {α : Type} [DecidableEq α] : ∀ (l m : List α), l.Nodup → l ⊆ m → l.length ≤ m.length
  | [], _, _, _ => Nat.zero_le _
  | x :: l, m, h, s => by
    have hx : x ∈ m := s (List.mem_cons_self ..)
    have h2 := List.nodup_cons.mp h
    have := nodup_le l (m.erase x) h2.2 fun y hy => (List.mem_erase_of_ne (fun z => h2.1 (by subst z; exact hy))).mpr (s (List.mem_cons_of_mem _ hy))
    rw [List.length_erase_of_mem hx] at this
    have := List.length_pos_of_mem hx
    rw [List.length_cons]
    omega
/-- lists while what is reached is looked up: found F, its edge T, behind so many laps -/
structure Rch (rs : List Row3) (s0 : List Nat) (i : Nat) (F T : List (List Nat)) : Prop where
  r : ∀ s ∈ F, ∃ wd, Wd wd ∧ wd ≠ [] ∧ runF rs s0 wd = s
  nd : F.Nodup
  e : ∀ s ∈ F, s ∈ T ∨ ∀ c, (c = 110 ∨ c = 102 ∨ c = 115) → toF rs s c ∈ F
  st : s0 ∈ T ∨ ∀ c, (c = 110 ∨ c = 102 ∨ c = 115) → toF rs s0 c ∈ F
  t : ∀ s ∈ T, s = s0 ∨ s ∈ F
  g : T = [] ∨ i ≤ F.length
/-- within a lap: the edge to come is L, so many of T are done -/
structure RchL (rs : List Row3) (s0 : List Nat) (F T L : List (List Nat)) (j : Nat) : Prop where
  r : ∀ s ∈ F ++ L, ∃ wd, Wd wd ∧ wd ≠ [] ∧ runF rs s0 wd = s
  nd : (F ++ L).Nodup
  d : ∀ s ∈ T.take j, ∀ c, (c = 110 ∨ c = 102 ∨ c = 115) → toF rs s c ∈ F ++ L
  z : j = 0 → L = []
section
variable {rs : List Row3} {s0 s : List Nat} {i j c : Nat} {F T L : List (List Nat)}
theorem Rch.zero : Rch rs s0 0 [] [s0] := ⟨(fun s h => nomatch h), List.nodup_nil, (fun s h => nomatch h), .inl (by simp), (fun s h => .inl (List.mem_singleton.mp h)), .inr (Nat.le_refl _)⟩
theorem Rch.begin (h : Rch rs s0 i F T) : RchL rs s0 F T [] 0 := ⟨by simpa using h.r, by simpa using h.nd, fun s h => by simp at h, fun _ => rfl⟩
theorem RchL.finish (h : Rch rs s0 i F T) (m : RchL rs s0 F T L T.length) : Rch rs s0 (i + 1) (F ++ L) L where
  r := m.r
  nd := m.nd
  e := fun s hs => by
    rcases List.mem_append.mp hs with h1 | h1
    · rcases h.e s h1 with h2 | h2
      · exact .inr fun c hc => m.d s (by rw [List.take_length]; exact h2) c hc
      · exact .inr fun c hc => List.mem_append_left _ (h2 c hc)
    · exact .inl h1
  st := by
    rcases h.st with h2 | h2
    · exact .inr fun c hc => m.d s0 (by rw [List.take_length]; exact h2) c hc
    · exact .inr fun c hc => List.mem_append_left _ (h2 c hc)
  t := fun s hs => .inr (List.mem_append_right _ hs)
  g := by
    rcases h.g with h1 | h1
    · exact .inl (m.z (by rw [h1]; rfl))
    · cases L with
      | nil => exact .inl rfl
      | cons x L => exact .inr (by rw [List.length_append, List.length_cons]; omega)
theorem Rch.all (h : Rch rs s0 i F T) (hi : i = rs.length) (hc : Closed rs) (h0 : s0 ∈ rs.map (·.nm)) (s : List Nat) : s ∈ F ↔ ∃ wd, Wd wd ∧ wd ≠ [] ∧ runF rs s0 wd = s := by
  refine ⟨h.r s, ?_⟩
  rintro ⟨wd, ww, w0, rfl⟩
  rcases h.g with h1 | h1
  · subst h1
    have cl : ∀ s ∈ F, ∀ c, (c = 110 ∨ c = 102 ∨ c = 115) → toF rs s c ∈ F := fun s hs => (h.e s hs).resolve_left (fun z => nomatch z)
    have st := h.st.resolve_left (fun z => nomatch z)
    have go : ∀ (v : List Nat) (s : List Nat), Wd v → s ∈ F → runF rs s v ∈ F := by
      intro v
      induction v with
      | nil => exact fun s _ hs => hs
      | cons x v ih => exact fun s hv hs => ih _ (fun c hc => hv c (List.mem_cons_of_mem _ hc)) (cl s hs x (hv x (List.mem_cons_self ..)))
    cases wd with
    | nil => exact absurd rfl w0
    | cons x v => exact go v _ (fun c hc => ww c (List.mem_cons_of_mem _ hc)) (st x (ww x (List.mem_cons_self ..)))
  · have sub : F ⊆ rs.map (·.nm) := fun s hs => by
      obtain ⟨v, hv, _, rfl⟩ := h.r s hs
      exact runF_mem hc hv h0
    have m := runF_mem hc ww h0
    apply Classical.byContradiction
    intro hn
    have nd2 : (runF rs s0 wd :: F).Nodup := List.nodup_cons.mpr ⟨hn, h.nd⟩
    have sub2 : (runF rs s0 wd :: F) ⊆ rs.map (·.nm) := fun s hs => (List.mem_cons.mp hs).elim (fun z => z ▸ m) fun z => sub z
    have := nodup_le _ _ nd2 sub2
    rw [List.length_cons, List.length_map] at this
    omega
end
theorem r_par3 {i j l : Nat} {tA : TA} {D : Ends} {σ : L2.St} {H : Hp} (h : tA σ H fun vs H1 => ∃ u v w, vs = [u, v, w] ∧ D.nx (((σ.set i (some u)).set j (some v)).set l (some w)) H1) : tPar3 i j l tA D σ H := h
/-- at one of the edge, so many letters are done -/
structure RchM (rs : List Row3) (s0 : List Nat) (F T L : List (List Nat)) (j : Nat) (h : List Nat) (k : Nat) : Prop where
  r : ∀ s ∈ F ++ L, ∃ wd, Wd wd ∧ wd ≠ [] ∧ runF rs s0 wd = s
  nd : (F ++ L).Nodup
  d : ∀ s ∈ T.take j, ∀ c, (c = 110 ∨ c = 102 ∨ c = 115) → toF rs s c ∈ F ++ L
  l : ∀ c ∈ ([110, 102, 115] : List Nat).take k, toF rs h c ∈ F ++ L
section
variable {rs : List Row3} {s0 s h : List Nat} {i j k c : Nat} {F T L : List (List Nat)}
theorem RchL.begin (m : RchL rs s0 F T L j) : RchM rs s0 F T L j h 0 := ⟨m.r, m.nd, m.d, fun c hc => by simp at hc⟩
theorem RchM.finish (m : RchM rs s0 F T L j h 3) (e : T[j]? = some h) : RchL rs s0 F T L (j + 1) where
  r := m.r
  nd := m.nd
  d := fun s hs c hc => by
    rw [take_snoc' e] at hs
    rcases List.mem_append.mp hs with h1 | h1
    · exact m.d s h1 c hc
    · rw [List.mem_singleton] at h1
      subst h1
      exact m.l c (by rcases hc with rfl | rfl | rfl <;> decide)
  z := fun z => by omega
theorem RchM.old (m : RchM rs s0 F T L j h k) (e : ([110, 102, 115] : List Nat)[k]? = some c) (hx : toF rs h c ∈ F ++ L) : RchM rs s0 F T L j h (k + 1) :=
  ⟨m.r, m.nd, m.d, fun x hx2 => by
    rw [take_snoc' e] at hx2
    rcases List.mem_append.mp hx2 with h1 | h1
    · exact m.l x h1
    · rw [List.mem_singleton] at h1
      subst h1
      exact hx⟩
theorem RchM.new (m : RchM rs s0 F T L j h k) (R : Rch rs s0 i F T) (hT : T[j]? = some h) (e : ([110, 102, 115] : List Nat)[k]? = some c) (hl : c = 110 ∨ c = 102 ∨ c = 115) (hx : toF rs h c ∉ F ++ L) : RchM rs s0 F T (L ++ [toF rs h c]) j h (k + 1) where
  r := fun s hs => by
    rw [← List.append_assoc] at hs
    rcases List.mem_append.mp hs with h1 | h1
    · exact m.r s h1
    · rw [List.mem_singleton] at h1
      subst h1
      rcases R.t h (List.mem_of_getElem? hT) with rfl | h2
      · exact ⟨[c], (fun x hx => by rw [List.mem_singleton.mp hx]; exact hl), by simp, rfl⟩
      · obtain ⟨v, hv, _, e2⟩ := R.r h h2
        refine ⟨v ++ [c], hv.app (fun x hx => by rw [List.mem_singleton.mp hx]; exact hl), by simp, ?_⟩
        rw [runF_snoc, e2]
  nd := by
    rw [← List.append_assoc, List.nodup_append]
    exact ⟨m.nd, by simp, fun x h1 y h2 => by rw [List.mem_singleton.mp h2]; rintro rfl; exact hx h1⟩
  d := fun s hs c hc => by rw [← List.append_assoc]; exact List.mem_append_left _ (m.d s hs c hc)
  l := fun x hx2 => by
    rw [← List.append_assoc]
    rw [take_snoc' e] at hx2
    rcases List.mem_append.mp hx2 with h1 | h1
    · exact List.mem_append_left _ (m.l x h1)
    · rw [List.mem_singleton] at h1
      subst h1
      exact List.mem_append_right _ (by simp)
theorem rch_sub (hr : ∀ s ∈ F, ∃ wd, Wd wd ∧ wd ≠ [] ∧ runF rs s0 wd = s) (hc : Closed rs) (h0 : s0 ∈ rs.map (·.nm)) : F ⊆ rs.map (·.nm) := fun s hs => by
  obtain ⟨v, hv, _, rfl⟩ := hr s hs
  exact runF_mem hc hv h0
theorem rch_len (hr : ∀ s ∈ F, ∃ wd, Wd wd ∧ wd ≠ [] ∧ runF rs s0 wd = s) (nd : F.Nodup) (hc : Closed rs) (h0 : s0 ∈ rs.map (·.nm)) : F.length ≤ rs.length := by
  have := nodup_le _ _ nd (rch_sub hr hc h0)
  rwa [List.length_map] at this
theorem Rch.tn (R : Rch rs s0 i F T) (hc : Closed rs) (h0 : s0 ∈ rs.map (·.nm)) (hs : s ∈ T) : s ∈ rs.map (·.nm) := (R.t s hs).elim (fun z => z ▸ h0) fun z => rch_sub R.r hc h0 z
end
/-! ### living states -/
def Goes1 (rs : List Row3) (s t : List Nat) : Prop := ∃ wd, Wd wd ∧ wd ≠ [] ∧ runF rs s wd = t
def Ring (rs : List Row3) (s : List Nat) : Prop := oftF rs s = true ∧ Goes1 rs s s
def Lives (rs : List Row3) (s : List Nat) : Prop := Ring rs s ∨ ∃ t, Ring rs t ∧ Goes1 rs s t
theorem oft_of {rs : List Row3} (u : Uniq rs) {r : Row3} (h : r ∈ rs) : oftF rs r.nm = r.oft := by
  unfold oftF rowOf
  induction rs with
  | nil => cases h
  | cons q rs ih =>
    have u2 : Uniq rs := (List.nodup_cons.mp u).2
    have u1 : q.nm ∉ rs.map (·.nm) := (List.nodup_cons.mp u).1
    rw [List.find?_cons]
    rcases List.mem_cons.mp h with rfl | h
    · rw [decide_eq_true rfl]
      rfl
    · rw [decide_eq_false (fun z => u1 (List.mem_map.mpr ⟨r, h, z.symm⟩))]
      exact ih u2 h
theorem r_anyB {K : PySem.W.Frag} {H : Hp} {Q : VK} {D : Addr} {bs : List Bool} (h : H D = some (.lst (bs.map V.bl))) (q : Q (.bl (bs.any id)) H) : rAny K [.ref D] H Q := ⟨D, bs, rfl, SqL.of h, q⟩
section
variable {rs : List Row3} {R : List (List Nat)} {Pr : List Nat → Prop} {i : Nat} {r : Row3}
theorem ring_step (m : ∀ s, s ∈ R ↔ ∃ q ∈ rs.take i, q.nm = s ∧ Pr s) (er : rs[i]? = some r) (hn : ¬ Pr r.nm) : ∀ s, s ∈ R ↔ ∃ q ∈ rs.take (i + 1), q.nm = s ∧ Pr s := fun s => by
  rw [m, take_snoc' er]
  constructor
  · rintro ⟨q, h1, h2⟩
    exact ⟨q, List.mem_append_left _ h1, h2⟩
  · rintro ⟨q, h1, h2, h3⟩
    rcases List.mem_append.mp h1 with h1 | h1
    · exact ⟨q, h1, h2, h3⟩
    · rw [List.mem_singleton.mp h1] at h2
      subst h2
      exact absurd h3 hn
theorem ring_add (m : ∀ s, s ∈ R ↔ ∃ q ∈ rs.take i, q.nm = s ∧ Pr s) (er : rs[i]? = some r) (hp : Pr r.nm) : ∀ s, s ∈ R ++ [r.nm] ↔ ∃ q ∈ rs.take (i + 1), q.nm = s ∧ Pr s := fun s => by
  rw [List.mem_append, m, take_snoc' er, List.mem_singleton]
  constructor
  · rintro (⟨q, h1, h2⟩ | rfl)
    · exact ⟨q, List.mem_append_left _ h1, h2⟩
    · exact ⟨r, List.mem_append_right _ (by simp), rfl, hp⟩
  · rintro ⟨q, h1, h2, h3⟩
    rcases List.mem_append.mp h1 with h1 | h1
    · exact .inl ⟨q, h1, h2, h3⟩
    · rw [List.mem_singleton.mp h1] at h2
      exact .inr h2.symm
theorem ring_all (m : ∀ s, s ∈ R ↔ ∃ q ∈ rs.take rs.length, q.nm = s ∧ Pr s) : ∀ s, s ∈ R ↔ s ∈ rs.map (·.nm) ∧ Pr s := fun s => by
  rw [m, List.take_length]
  constructor
  · rintro ⟨q, h1, h2, h3⟩
    exact ⟨List.mem_map.mpr ⟨q, h1, h2⟩, h3⟩
  · rintro ⟨h1, h2⟩
    obtain ⟨q, h3, h4⟩ := List.mem_map.mp h1
    exact ⟨q, h3, h4, h2⟩
theorem same_free {H X : Hp} {p : Addr} (s : Same H X) (h : X p = none) : H p = none := by
  cases z : H p with
  | none => rfl
  | some o => rw [s _ _ z] at h; cases h
end
/-! ### losses told otherwise -/
inductive Told (h r : List Nat) : List Nat → List Nat → Prop
  | lap : Told h r (h ++ r) r
  | more (n : Nat) (h2 : 2 ≤ n) (h3 : n ≤ 3) : Told h r h (repW n r)
  | turn (x : Nat) (v : List Nat) (e : r = x :: v) : Told h r (h ++ [x]) (v ++ [x])
end Tf

set_option Elab.async false
set_option linter.all false
set_option maxRecDepth 100000
set_option maxHeartbeats 2000000
/-! what a law lets: often again and again -/
namespace Tf
theorem lt_lap (a : Nat) {b : Nat} (hb : 0 < b) : a < (a / b + 1) * b := by
  have := Nat.mod_add_div a b
  have := Nat.mod_lt a hb
  rw [Nat.succ_mul, Nat.mul_comm (a / b) b]
  omega
theorem told_row {h r h' r' : List Nat} (t : Told h r h' r') (r0 : r ≠ []) : rw h' r' = rw h r := by
  have l0 : 0 < r.length := List.length_pos_iff.mpr r0
  cases t with
  | lap => exact rw_longer l0
  | more n h2 h3 => exact rw_often l0 (by omega)
  | turn x v e => subst e; exact rw_turn
def stF (rs : List Row3) (f : Nat → Nat) (p : Nat) : List Nat := runF rs (firstOf rs) (seg f 0 p)
def InfO (rs : List Row3) (f : Nat → Nat) : Prop := ∀ N, ∃ p, N ≤ p ∧ oftF rs (stF rs f p) = true
section
variable {rs : List Row3} {h r : List Nat}
theorem rw_laps (h r : List Nat) (k : Nat) : seg (rw h r) 0 (h.length + k * r.length) = h ++ repW k r := by
  rw [← seg_app, rw_head, Nat.zero_add, seg_rep (rw_per h r), rw_ring]
  rfl
theorem stF_app (f : Nat → Nat) (p q : Nat) : stF rs f (p + q) = runF rs (stF rs f p) (seg f p q) := by
  unfold stF
  rw [← seg_app, runF_app, Nat.zero_add]
theorem per_seg {f : Nat → Nat} {m p : Nat} (pf : Per f m p) (a q k : Nat) (ha : m ≤ a) : seg f (a + k * p) q = seg f a q := by
  induction k with
  | zero => rw [Nat.zero_mul, Nat.add_zero]
  | succ k ih =>
    rw [← ih]
    refine seg_ext fun i hi => ?_
    have := pf (a + k * p + i) (by omega)
    rw [← this]
    congr 1
    rw [Nat.succ_mul]
    omega
theorem again (hne : rs ≠ []) (hc : Closed rs) (wh : Wd h) (wr : Wd r) : ∃ i d, i ≤ rs.length ∧ 1 ≤ d ∧ d ≤ rs.length ∧ ∀ p, h.length + i * r.length ≤ p → stF rs (rw h r) (p + d * r.length) = stF rs (rw h r) p := by
  have mem : ∀ k, stF rs (rw h r) (h.length + k * r.length) ∈ rs.map (·.nm) := fun k => by
    unfold stF
    rw [rw_laps]
    exact runF_mem hc (wh.app (repW_wd wr)) (first_mem hne)
  have ex : ∃ i j, i < j ∧ j ≤ rs.length ∧ stF rs (rw h r) (h.length + i * r.length) = stF rs (rw h r) (h.length + j * r.length) := by
    apply Classical.byContradiction
    intro hn
    have nd : ((List.range (rs.length + 1)).map fun k => stF rs (rw h r) (h.length + k * r.length)).Nodup := by
      unfold List.Nodup
      rw [List.pairwise_map]
      refine List.Pairwise.imp_of_mem ?_ List.pairwise_lt_range
      intro a b _ hb hab e
      exact hn ⟨a, b, hab, by have := List.mem_range.mp hb; omega, e⟩
    have := nodup_le _ (rs.map (·.nm)) nd fun s hs => by
      obtain ⟨k, _, rfl⟩ := List.mem_map.mp hs
      exact mem k
    rw [List.length_map, List.length_range, List.length_map] at this
    omega
  obtain ⟨i, j, hij, hj, e⟩ := ex
  refine ⟨i, j - i, by omega, by omega, by omega, fun p hp => ?_⟩
  obtain ⟨q, rfl⟩ : ∃ q, p = h.length + i * r.length + q := ⟨p - (h.length + i * r.length), by omega⟩
  have e2 : h.length + i * r.length + q + (j - i) * r.length = h.length + j * r.length + q := by
    have : j * r.length = i * r.length + (j - i) * r.length := by rw [← Nat.add_mul]; congr 1; omega
    omega
  rw [e2, stF_app _ (h.length + j * r.length) q, stF_app _ (h.length + i * r.length) q, ← e]
  congr 1
  have e3 : h.length + j * r.length = h.length + i * r.length + (j - i) * r.length := by
    have : j * r.length = i * r.length + (j - i) * r.length := by rw [← Nat.add_mul]; congr 1; omega
    omega
  rw [e3]
  exact per_seg (rw_per h r) _ _ _ (by omega)
theorem lets_pos (h r : List Nat) : letsF rs h r = true ↔ ∃ i, i < rs.length * r.length ∧ oftF rs (stF rs (rw h r) (h.length + rs.length * r.length + i + 1)) = true := by
  unfold letsF hits
  rw [decide_eq_true_eq, repW_len]
  have e : ∀ i, i < rs.length * r.length → runF rs (runF rs (firstOf rs) (h ++ repW rs.length r)) ((repW rs.length r).take (i + 1)) = stF rs (rw h r) (h.length + rs.length * r.length + i + 1) := fun i hi => by
    rw [show h.length + rs.length * r.length + i + 1 = (h.length + rs.length * r.length) + (i + 1) by omega, stF_app]
    unfold stF
    rw [rw_laps, per_seg (rw_per h r) h.length (i + 1) rs.length (Nat.le_refl _)]
    congr 1
    have e2 : repW rs.length r = seg (rw h r) h.length (rs.length * r.length) := by
      rw [seg_rep (rw_per h r), rw_ring]
      rfl
    rw [e2, seg_take (by omega)]
  constructor
  · rintro ⟨i, hi, h⟩
    exact ⟨i, hi, by rw [← e i hi]; exact h⟩
  · rintro ⟨i, hi, h⟩
    exact ⟨i, hi, by rw [e i hi]; exact h⟩
theorem lets_inf (hne : rs ≠ []) (hc : Closed rs) (wh : Wd h) (wr : Wd r) (r0 : r ≠ []) : letsF rs h r = true ↔ InfO rs (rw h r) := by
  have l0 : 0 < r.length := List.length_pos_iff.mpr r0
  obtain ⟨i0, d, hi0, d1, dn, per⟩ := again (h := h) (r := r) hne hc wh wr
  have hM : h.length + i0 * r.length ≤ h.length + rs.length * r.length := Nat.add_le_add_left (Nat.mul_le_mul_right _ hi0) _
  have perm : ∀ m p, h.length + i0 * r.length ≤ p → stF rs (rw h r) (p + m * (d * r.length)) = stF rs (rw h r) p := by
    intro m
    induction m with
    | zero => intro p _; rw [Nat.zero_mul, Nat.add_zero]
    | succ m ih =>
      intro p hp
      rw [Nat.succ_mul, ← Nat.add_assoc, per _ (by omega)]
      exact ih p hp
  have D0 : 0 < d * r.length := Nat.mul_pos (by omega) l0
  have DN : d * r.length ≤ rs.length * r.length := Nat.mul_le_mul_right _ dn
  rw [lets_pos]
  generalize hP : h.length + rs.length * r.length = P at hM ⊢
  generalize hD : d * r.length = D at perm D0 DN
  constructor
  · rintro ⟨i, hi, ho⟩ N
    refine ⟨P + i + 1 + N * D, ?_, ?_⟩
    · have := Nat.le_mul_of_pos_right N D0
      omega
    · rw [perm N _ (by omega)]
      exact ho
  · intro inf
    obtain ⟨p, hp, ho⟩ := inf (P + 1)
    refine ⟨(p - P - 1) % D, Nat.lt_of_lt_of_le (Nat.mod_lt _ D0) DN, ?_⟩
    have e : p = P + (p - P - 1) % D + 1 + (p - P - 1) / D * D := by
      have := Nat.mod_add_div (p - P - 1) D
      rw [Nat.mul_comm] at this
      omega
    rw [e, perm _ _ (by omega)] at ho
    exact ho
/-- one period tells it -/
theorem inf_per {f : Nat → Nat} {M D : Nat} (D0 : 0 < D) (per : ∀ p, M ≤ p → stF rs f (p + D) = stF rs f p) : InfO rs f ↔ ∃ p, M < p ∧ p ≤ M + D ∧ oftF rs (stF rs f p) = true := by
  have perm : ∀ m p, M ≤ p → stF rs f (p + m * D) = stF rs f p := by
    intro m
    induction m with
    | zero => intro p _; rw [Nat.zero_mul, Nat.add_zero]
    | succ m ih =>
      intro p hp
      rw [Nat.succ_mul, ← Nat.add_assoc, per _ (by omega)]
      exact ih p hp
  constructor
  · intro inf
    obtain ⟨p, hp, ho⟩ := inf (M + 1)
    have hm := Nat.mod_lt (p - M - 1) D0
    refine ⟨M + (p - M - 1) % D + 1, by omega, by omega, ?_⟩
    have e : p = M + (p - M - 1) % D + 1 + (p - M - 1) / D * D := by
      have := Nat.mod_add_div (p - M - 1) D
      rw [Nat.mul_comm] at this
      omega
    rw [e, perm _ _ (by omega)] at ho
    exact ho
  · rintro ⟨p, h1, h2, ho⟩ N
    refine ⟨p + N * D, ?_, ?_⟩
    · have := Nat.le_mul_of_pos_right N D0
      omega
    · rw [perm N _ (by omega)]
      exact ho
/-- a state at the beginning of a lap that comes again -/
theorem laps_per {i j : Nat} (hij : i < j) (e : stF rs (rw h r) (h.length + i * r.length) = stF rs (rw h r) (h.length + j * r.length)) (p : Nat) (hp : h.length + i * r.length ≤ p) : stF rs (rw h r) (p + (j - i) * r.length) = stF rs (rw h r) p := by
  obtain ⟨q, rfl⟩ : ∃ q, p = h.length + i * r.length + q := ⟨p - (h.length + i * r.length), by omega⟩
  have e2 : h.length + i * r.length + q + (j - i) * r.length = h.length + j * r.length + q := by
    have : j * r.length = i * r.length + (j - i) * r.length := by rw [← Nat.add_mul]; congr 1; omega
    omega
  rw [e2, stF_app _ (h.length + j * r.length) q, stF_app _ (h.length + i * r.length) q, ← e]
  congr 1
  have e3 : h.length + j * r.length = h.length + i * r.length + (j - i) * r.length := by
    have : j * r.length = i * r.length + (j - i) * r.length := by rw [← Nat.add_mul]; congr 1; omega
    omega
  rw [e3]
  exact per_seg (rw_per h r) _ _ _ (by omega)
/-- the beginnings of laps -/
def lapS (rs : List Row3) (h r : List Nat) (k : Nat) : List Nat := stF rs (rw h r) (h.length + k * r.length)
theorem lapS_zero : lapS rs h r 0 = runF rs (firstOf rs) h := by
  unfold lapS stF
  rw [Nat.zero_mul, Nat.add_zero, rw_head]
theorem lapS_succ (k : Nat) : lapS rs h r (k + 1) = runF rs (lapS rs h r k) r := by
  unfold lapS
  rw [Nat.succ_mul, ← Nat.add_assoc, stF_app, per_seg (rw_per h r) h.length r.length k (Nat.le_refl _), rw_ring]
/-- whether a lap comes to an often state -/
def lapHit (rs : List Row3) (h r : List Nat) (k : Nat) : Bool := hits rs (lapS rs h r k) r
theorem lapHit_iff (k : Nat) : lapHit rs h r k = true ↔ ∃ p, h.length + k * r.length < p ∧ p ≤ h.length + (k + 1) * r.length ∧ oftF rs (stF rs (rw h r) p) = true := by
  unfold lapHit hits lapS
  rw [decide_eq_true_eq, Nat.succ_mul]
  have e : ∀ i, i < r.length → runF rs (stF rs (rw h r) (h.length + k * r.length)) (r.take (i + 1)) = stF rs (rw h r) (h.length + k * r.length + (i + 1)) := fun i hi => by
    rw [stF_app _ (h.length + k * r.length) (i + 1), per_seg (rw_per h r) h.length (i + 1) k (Nat.le_refl _)]
    congr 1
    have e2 : r = seg (rw h r) h.length r.length := (rw_ring h r).symm
    conv => lhs; rw [e2]
    rw [seg_take (by omega)]
  constructor
  · rintro ⟨i, hi, ho⟩
    exact ⟨h.length + k * r.length + (i + 1), by omega, by omega, by rw [← e i hi]; exact ho⟩
  · rintro ⟨p, h1, h2, ho⟩
    refine ⟨p - (h.length + k * r.length) - 1, by omega, ?_⟩
    rw [e _ (by omega), show h.length + k * r.length + (p - (h.length + k * r.length) - 1 + 1) = p by omega]
    exact ho
/-- what the going round tells as soon as a state comes again -/
theorem lets_laps {t m : Nat} (hne : rs ≠ []) (hc : Closed rs) (wh : Wd h) (wr : Wd r) (r0 : r ≠ []) (htm : t < m) (e : lapS rs h r t = lapS rs h r m) : letsF rs h r = true ↔ ∃ k, t ≤ k ∧ k < m ∧ lapHit rs h r k = true := by
  have l0 : 0 < r.length := List.length_pos_iff.mpr r0
  rw [lets_inf hne hc wh wr r0, inf_per (Nat.mul_pos (show 0 < m - t by omega) l0) (laps_per htm e)]
  have em : h.length + t * r.length + (m - t) * r.length = h.length + m * r.length := by
    have : m * r.length = t * r.length + (m - t) * r.length := by rw [← Nat.add_mul]; congr 1; omega
    omega
  rw [em]
  constructor
  · rintro ⟨p, h1, h2, ho⟩
    refine ⟨(p - h.length - 1) / r.length, ?_, ?_, (lapHit_iff _).mpr ⟨p, ?_, ?_, ho⟩⟩
    · rw [Nat.le_div_iff_mul_le l0]; omega
    · rw [Nat.div_lt_iff_lt_mul l0]; omega
    · have := Nat.div_mul_le_self (p - h.length - 1) r.length
      omega
    · have := lt_lap (p - h.length - 1) l0
      omega
  · rintro ⟨k, h1, h2, hk⟩
    obtain ⟨p, h3, h4, ho⟩ := (lapHit_iff k).mp hk
    refine ⟨p, ?_, ?_, ho⟩
    · have := Nat.mul_le_mul_right r.length h1
      omega
    · have : (k + 1) * r.length ≤ m * r.length := Nat.mul_le_mul_right _ h2
      omega
/-- losses that are alike are let alike -/
theorem lets_alike {h' r' : List Nat} (hne : rs ≠ []) (hc : Closed rs) (wh : Wd h) (wr : Wd r) (r0 : r ≠ []) (wh' : Wd h') (wr' : Wd r') (r0' : r' ≠ []) (e : rw h' r' = rw h r) : letsF rs h' r' = letsF rs h r := by
  rw [Bool.eq_iff_iff, lets_inf hne hc wh' wr' r0', lets_inf hne hc wh wr r0, e]
end
theorem lives_next {rs : List Row3} {s : List Nat} (h : Lives rs s) : ∃ c, (c = 110 ∨ c = 102 ∨ c = 115) ∧ Lives rs (toF rs s c) := by
  have go : ∀ t, Ring rs t → Goes1 rs s t → ∃ c, (c = 110 ∨ c = 102 ∨ c = 115) ∧ Lives rs (toF rs s c) := by
    rintro t ht ⟨wd, hw, w0, e⟩
    cases wd with
    | nil => exact absurd rfl w0
    | cons c v =>
      refine ⟨c, hw c (List.mem_cons_self ..), ?_⟩
      have e2 : runF rs (toF rs s c) v = t := e
      cases v with
      | nil =>
        have e3 : toF rs s c = t := e2
        rw [e3]
        exact .inl ht
      | cons x v => exact .inr ⟨t, ht, x :: v, (fun y hy => hw y (List.mem_cons_of_mem _ hy)), by simp, e2⟩
  rcases h with h | ⟨t, h1, h2⟩
  · exact go s h h.2
  · exact go t h1 h2
end Tf

set_option Elab.async false
set_option linter.all false
set_option maxRecDepth 100000
set_option maxHeartbeats 2000000
namespace Tf
/-- a size, in bits -/
def Z (n : Nat) (x : Int) : Prop := x.natAbs < 2 ^ n
theorem Z.mul {a b : Nat} {x y : Int} (h : Z a x) (k : Z b y) : Z (a + b) (x * y) := by
  unfold Z at *
  rw [Int.natAbs_mul, Nat.pow_add]
  exact Nat.mul_lt_mul'' h k
theorem Z.add {a b : Nat} {x y : Int} (h : Z a x) (k : Z b y) : Z (max a b + 1) (x + y) := by
  unfold Z at *
  have h1 : 2 ^ a ≤ 2 ^ max a b := Nat.pow_le_pow_right (by decide) (Nat.le_max_left _ _)
  have h2 : 2 ^ b ≤ 2 ^ max a b := Nat.pow_le_pow_right (by decide) (Nat.le_max_right _ _)
  rw [Nat.pow_succ]; omega
theorem Z.neg {a : Nat} {x : Int} (h : Z a x) : Z a (-x) := by unfold Z at *; omega
theorem Z.sub {a b : Nat} {x y : Int} (h : Z a x) (k : Z b y) : Z (max a b + 1) (x - y) := by
  rw [Int.sub_eq_add_neg]; exact h.add k.neg
theorem Z.le {a b : Nat} {x : Int} (h : Z a x) (k : a ≤ b) : Z b x := Nat.lt_of_lt_of_le h (Nat.pow_le_pow_right (by decide) k)
theorem Z.abs {a : Nat} {x : Int} (h : Z a x) : Z a (x.natAbs : Int) := by unfold Z at *; omega
theorem Z.if_abs {a : Nat} {x : Int} (h : Z a x) : Z a (if x < 0 then -x else x) := by unfold Z at *; split <;> omega
theorem Z.of {a : Nat} {x : Int} (h : x.natAbs < 2 ^ a) : Z a x := h
theorem Z.log {a : Nat} {x : Int} (h : Z a x) : x.natAbs.log2 ≤ a := by
  by_cases e : x.natAbs = 0
  · rw [e]; show Nat.log2 0 ≤ a; rw [Nat.log2_zero]; exact Nat.zero_le _
  · have := (Nat.log2_lt e).mpr h
    omega
/-- the greatest common divisor -/
def G (t b : Int) : Int := (Nat.gcd t.natAbs b.natAbs : Nat)
theorem G_pos {t b : Int} (h : 0 < b) : 0 < G t b := by
  have : 0 < Nat.gcd t.natAbs b.natAbs := Nat.gcd_pos_of_pos_right _ (by omega)
  unfold G; omega
theorem G_le {t b : Int} (h : 0 < b) : G t b ≤ b := by
  have : Nat.gcd t.natAbs b.natAbs ≤ b.natAbs := Nat.gcd_le_right _ (by omega)
  unfold G; omega
theorem G_dl (t b : Int) : G t b ∣ t := Int.natAbs_dvd_natAbs.mp (Nat.gcd_dvd_left _ _)
theorem G_dr (t b : Int) : G t b ∣ b := Int.natAbs_dvd_natAbs.mp (Nat.gcd_dvd_right _ _)
/-- in least terms -/
def fr (t b : Int) : Int × Int := (t / G t b, b / G t b)
theorem fr1 (t b : Int) : (fr t b).1 * G t b = t := Int.ediv_mul_cancel (G_dl t b)
theorem fr2 (t b : Int) : (fr t b).2 * G t b = b := Int.ediv_mul_cancel (G_dr t b)
structure LT (t b : Int) : Prop where
  pos : 0 < b
  one : Nat.gcd t.natAbs b.natAbs = 1
theorem fr_lt {t b : Int} (h : 0 < b) : LT (fr t b).1 (fr t b).2 := by
  have g0 := G_pos (t := t) h
  refine ⟨Int.ediv_pos_of_pos_of_dvd h (Int.le_of_lt g0) (G_dr t b), ?_⟩
  have e1 : (fr t b).1.natAbs * (G t b).natAbs = t.natAbs := by rw [← Int.natAbs_mul, fr1]
  have e2 : (fr t b).2.natAbs * (G t b).natAbs = b.natAbs := by rw [← Int.natAbs_mul, fr2]
  have e3 : (G t b).natAbs = Nat.gcd t.natAbs b.natAbs := rfl
  have e4 : Nat.gcd (fr t b).1.natAbs (fr t b).2.natAbs * (G t b).natAbs = (G t b).natAbs := by
    rw [← Nat.gcd_mul_right, e1, e2, e3]
  exact Nat.eq_of_mul_eq_mul_right (show 0 < (G t b).natAbs by omega) (by rw [e4, Nat.one_mul])
theorem fr_pos {t b : Int} (h : 0 < b) : 0 < (fr t b).2 := (fr_lt h).pos
theorem fr_x (t b : Int) : (fr t b).1 * b = t * (fr t b).2 := by
  have a := fr1 t b
  have c := fr2 t b
  generalize G t b = g at a c
  generalize (fr t b).1 = x at a ⊢
  generalize (fr t b).2 = y at c ⊢
  subst a c
  grind
theorem lt_uniq {t b t' b' : Int} (h : LT t b) (h' : LT t' b') (e : t * b' = t' * b) : t = t' ∧ b = b' := by
  have p := h.pos
  have p' := h'.pos
  have e1 : t.natAbs * b'.natAbs = t'.natAbs * b.natAbs := by rw [← Int.natAbs_mul, ← Int.natAbs_mul, e]
  have d1 : b.natAbs ∣ b'.natAbs := by
    have : b.natAbs ∣ t.natAbs * b'.natAbs := ⟨t'.natAbs, by rw [e1, Nat.mul_comm]⟩
    exact Nat.Coprime.dvd_of_dvd_mul_left (Nat.Coprime.symm h.one) this
  have d2 : b'.natAbs ∣ b.natAbs := by
    have : b'.natAbs ∣ t'.natAbs * b.natAbs := ⟨t.natAbs, by rw [← e1, Nat.mul_comm]⟩
    exact Nat.Coprime.dvd_of_dvd_mul_left (Nat.Coprime.symm h'.one) this
  have eb : b = b' := by
    have := Nat.dvd_antisymm d1 d2
    omega
  subst eb
  exact ⟨Int.eq_of_mul_eq_mul_right (by omega) e, rfl⟩
theorem fr_id {t b : Int} (h : LT t b) : fr t b = (t, b) := by
  have e : G t b = 1 := by unfold G; rw [h.one]; rfl
  unfold fr
  rw [e, Int.ediv_one, Int.ediv_one]
theorem fr_eq {t b t' b' : Int} (h : 0 < b) (h' : 0 < b') (e : t * b' = t' * b) : fr t b = fr t' b' := by
  have a := fr_lt (t := t) h
  have c := fr_lt (t := t') h'
  have x := fr_x t b
  have y := fr_x t' b'
  have z := lt_uniq a c (by
    have hb : b * b' ≠ 0 := Int.mul_ne_zero (by omega) (by omega)
    apply Int.eq_of_mul_eq_mul_right hb
    generalize (fr t b).1 = p at *
    generalize (fr t b).2 = q at *
    generalize (fr t' b').1 = p' at *
    generalize (fr t' b').2 = q' at *
    calc p * q' * (b * b') = (p * b) * q' * b' := by grind
      _ = t * q * q' * b' := by rw [x]
      _ = (t * b') * q * q' := by grind
      _ = (t' * b) * q * q' := by rw [e]
      _ = (t' * q') * q * b := by grind
      _ = (p' * b') * q * b := by rw [y]
      _ = p' * q * (b * b') := by grind)
  exact Prod.ext z.1 z.2
theorem fr_one (t : Int) : fr t 1 = (t, 1) := fr_id ⟨by decide, by show Nat.gcd _ 1 = 1; exact Nat.gcd_one_right _⟩
theorem fr_Z {t b : Int} {n m : Nat} (h : 0 < b) (h1 : Z n t) (h2 : Z m b) : Z n (fr t b).1 ∧ Z m (fr t b).2 := by
  have g0 := G_pos (t := t) h
  have e1 : (fr t b).1.natAbs * (G t b).natAbs = t.natAbs := by rw [← Int.natAbs_mul, fr1]
  have e2 : (fr t b).2.natAbs * (G t b).natAbs = b.natAbs := by rw [← Int.natAbs_mul, fr2]
  have g1 : 1 ≤ (G t b).natAbs := by omega
  unfold Z at *
  constructor
  · have := Nat.mul_le_mul_left (fr t b).1.natAbs g1
    omega
  · have := Nat.mul_le_mul_left (fr t b).2.natAbs g1
    omega
theorem G_Z {t b : Int} {m : Nat} (h : 0 < b) (h2 : Z m b) : Z m (G t b) := by
  have g0 := G_pos (t := t) h
  have g1 := G_le (t := t) h
  unfold Z at *
  omega
theorem fr_Z2 {t b : Int} {m : Nat} (h : 0 < b) (h2 : Z m b) : Z m (fr t b).2 := by
  have g0 := G_pos (t := t) h
  have e2 : (fr t b).2.natAbs * (G t b).natAbs = b.natAbs := by rw [← Int.natAbs_mul, fr2]
  have g1 : 1 ≤ (G t b).natAbs := by omega
  unfold Z at *
  have := Nat.mul_le_mul_left (fr t b).2.natAbs g1
  omega
theorem fr_slim {a b m : Int} (hb : 0 < b) (hm : 0 < m) : fr (fr a b).1 ((fr a b).2 * m) = fr a (b * m) := by
  have x := fr_x a b
  have p := fr_pos (t := a) hb
  refine fr_eq (Int.mul_pos p hm) (Int.mul_pos hb hm) ?_
  grind
theorem z3 (n : Nat) : Z (2 * n + 1) (3 ^ n) := by
  unfold Z
  have e : ((3 : Int) ^ n).natAbs = 3 ^ n := by rw [Int.natAbs_pow]; rfl
  rw [e]
  have : 3 ^ n ≤ 4 ^ n := Nat.pow_le_pow_left (by decide) n
  have h4 : 4 ^ n = 2 ^ (2 * n) := by rw [Nat.pow_mul]
  rw [Nat.pow_succ]
  have : 0 < 2 ^ (2 * n) := Nat.pow_pos (by decide)
  omega
theorem fr_plus {a b c d : Int} (hb : 0 < b) (hd : 0 < d) : fr ((fr a b).1 * (fr c d).2 + (fr c d).1 * (fr a b).2) ((fr a b).2 * (fr c d).2) = fr (a * d + c * b) (b * d) := by
  have x := fr_x a b
  have y := fr_x c d
  have p := fr_pos (t := a) hb
  have q := fr_pos (t := c) hd
  refine fr_eq (Int.mul_pos p q) (Int.mul_pos hb hd) ?_
  grind
theorem fr_less {a b c d : Int} (hb : 0 < b) (hd : 0 < d) : fr ((fr a b).1 * (fr c d).2 - (fr c d).1 * (fr a b).2) ((fr a b).2 * (fr c d).2) = fr (a * d - c * b) (b * d) := by
  have x := fr_x a b
  have y := fr_x c d
  have p := fr_pos (t := a) hb
  have q := fr_pos (t := c) hd
  refine fr_eq (Int.mul_pos p q) (Int.mul_pos hb hd) ?_
  grind
theorem fr_times {a b c d : Int} (hb : 0 < b) (hd : 0 < d) : fr ((fr a b).1 * (fr c d).1) ((fr a b).2 * (fr c d).2) = fr (a * c) (b * d) := by
  have x := fr_x a b
  have y := fr_x c d
  have p := fr_pos (t := a) hb
  have q := fr_pos (t := c) hd
  refine fr_eq (Int.mul_pos p q) (Int.mul_pos hb hd) ?_
  grind
theorem fr_over {a b c d : Int} (hb : 0 < b) (hc : 0 < c) : fr ((fr a b).1 * d) ((fr a b).2 * c) = fr (a * d) (b * c) := by
  have x := fr_x a b
  have p := fr_pos (t := a) hb
  refine fr_eq (Int.mul_pos p hc) (Int.mul_pos hb hc) ?_
  grind
theorem abs_nat (x : Int) : (if x < 0 then -x else x) = (x.natAbs : Int) := by split <;> omega
theorem fr_abs {a b : Int} (hb : 0 < b) : fr ((fr a b).1.natAbs : Int) (fr a b).2 = fr (a.natAbs : Int) b ∧ fr ((fr a b).1.natAbs : Int) (fr a b).2 = (((fr a b).1.natAbs : Int), (fr a b).2) := by
  have p := fr_lt (t := a) hb
  constructor
  · refine fr_eq p.pos hb ?_
    have x := congrArg Int.natAbs (fr_x a b)
    rw [Int.natAbs_mul, Int.natAbs_mul] at x
    have e1 : (b.natAbs : Int) = b := by omega
    have e2 : ((fr a b).2.natAbs : Int) = (fr a b).2 := by have := p.pos; omega
    have x2 : ((fr a b).1.natAbs : Int) * (b.natAbs : Int) = (a.natAbs : Int) * ((fr a b).2.natAbs : Int) := by
      rw [← Int.natCast_mul, ← Int.natCast_mul, x]
    rw [e1, e2] at x2
    exact x2
  · exact fr_id ⟨p.pos, by rw [Int.natAbs_natCast]; exact p.one⟩
theorem fr_abs2 {a b c d : Int} (hb : 0 < b) (hd : 0 < d) : fr (((fr a b).1 * (fr c d).2 - (fr c d).1 * (fr a b).2).natAbs : Int) ((fr a b).2 * (fr c d).2) = fr ((a * d - c * b).natAbs : Int) (b * d) := by
  have p := fr_pos (t := a) hb
  have q := fr_pos (t := c) hd
  have h := fr_less (a := a) (c := c) hb hd
  have h1 := fr_abs (a := (fr a b).1 * (fr c d).2 - (fr c d).1 * (fr a b).2) (Int.mul_pos p q)
  have h2 := fr_abs (a := a * d - c * b) (Int.mul_pos hb hd)
  rw [← h1.1, ← h2.1, h]
/-- which of two is less -/
theorem fr_lt_iff {a b c d : Int} (hb : 0 < b) (hd : 0 < d) : (fr a b).1 * (fr c d).2 < (fr c d).1 * (fr a b).2 ↔ a * d < c * b := by
  have x := fr_x a b
  have y := fr_x c d
  have p := fr_pos (t := a) hb
  have q := fr_pos (t := c) hd
  have hbd := Int.mul_pos hb hd
  have hpq := Int.mul_pos p q
  generalize (fr a b).1 = s at *
  generalize (fr a b).2 = u at *
  generalize (fr c d).1 = v at *
  generalize (fr c d).2 = w at *
  have e1 : (s * w) * (b * d) = (a * d) * (u * w) := by grind
  have e2 : (v * u) * (b * d) = (c * b) * (u * w) := by grind
  constructor
  · intro h
    have := Int.mul_lt_mul_of_pos_right h hbd
    rw [e1, e2] at this
    exact Int.lt_of_mul_lt_mul_right this (Int.le_of_lt hpq)
  · intro h
    have := Int.mul_lt_mul_of_pos_right h hpq
    rw [← e1, ← e2] at this
    exact Int.lt_of_mul_lt_mul_right this (Int.le_of_lt hbd)
/-! what near tells, and what is due -/
section
variable {a0 a1 b0 b1 n m : Int}
/-- by n of m steps from the one to the other -/
def way (a0 a1 b0 b1 n m : Int) : Int × Int := fr (a0 * b1 * (m - n) + b0 * a1 * n) (a1 * b1 * m)
theorem way_due (ha : 0 < a1) (hb : 0 < b1) (hm : 0 < m) :
    fr (a0 * (fr ((b0 * a1 - a0 * b1) * n) (b1 * a1 * m)).2 + (fr ((b0 * a1 - a0 * b1) * n) (b1 * a1 * m)).1 * a1) (a1 * (fr ((b0 * a1 - a0 * b1) * n) (b1 * a1 * m)).2) = way a0 a1 b0 b1 n m := by
  have hz : 0 < b1 * a1 * m := Int.mul_pos (Int.mul_pos hb ha) hm
  have x := fr_x ((b0 * a1 - a0 * b1) * n) (b1 * a1 * m)
  have p := fr_pos (t := (b0 * a1 - a0 * b1) * n) hz
  generalize (fr ((b0 * a1 - a0 * b1) * n) (b1 * a1 * m)).1 = s at *
  generalize (fr ((b0 * a1 - a0 * b1) * n) (b1 * a1 * m)).2 = u at *
  refine fr_eq (Int.mul_pos ha p) (Int.mul_pos (Int.mul_pos ha hb) hm) ?_
  grind
theorem way_pos (ha : 0 < a1) (hb : 0 < b1) (hm : 0 < m) : 0 < a1 * b1 * m := Int.mul_pos (Int.mul_pos ha hb) hm
theorem way_apart (ha : 0 < a1) (hb : 0 < b1) (hm : 0 < m) {k : Int} (hk : k = n + 1 ∨ n = k + 1) :
    fr (((a0 * b1 * (m - n) + b0 * a1 * n) * (a1 * b1 * m) - (a0 * b1 * (m - k) + b0 * a1 * k) * (a1 * b1 * m)).natAbs : Int) ((a1 * b1 * m) * (a1 * b1 * m)) = fr ((a0 * b1 - b0 * a1).natAbs : Int) (a1 * b1 * m) := by
  have p := way_pos ha hb hm
  refine fr_eq (Int.mul_pos p p) p ?_
  have e : (a0 * b1 * (m - n) + b0 * a1 * n) * (a1 * b1 * m) - (a0 * b1 * (m - k) + b0 * a1 * k) * (a1 * b1 * m) = (a0 * b1 - b0 * a1) * (k - n) * (a1 * b1 * m) := by grind
  rw [e, Int.natAbs_mul, Int.natAbs_mul]
  have e1 : (k - n).natAbs = 1 := by omega
  rw [e1, Nat.mul_one, Int.natCast_mul]
  have e2 : ((a1 * b1 * m).natAbs : Int) = a1 * b1 * m := by omega
  rw [e2]
  grind
theorem way_low (ha : 0 < a1) (hb : 0 < b1) (hm : 0 < m) : way a0 a1 b0 b1 0 m = fr a0 a1 := by
  refine fr_eq (way_pos ha hb hm) ha ?_
  grind
theorem way_high (ha : 0 < a1) (hb : 0 < b1) (hm : 0 < m) : way a0 a1 b0 b1 m m = fr b0 b1 := by
  refine fr_eq (way_pos ha hb hm) hb ?_
  grind
/-- an end is not below the lesser worth -/
theorem way_ge (ha : 0 < a1) (hb : 0 < b1) (hm : 0 < m) (h0 : 0 ≤ n) (h1 : n ≤ m) (h : a0 * b1 ≤ b0 * a1) :
    a0 * (a1 * b1 * m) ≤ (a0 * b1 * (m - n) + b0 * a1 * n) * a1 ∧ (a0 * b1 * (m - n) + b0 * a1 * n) * b1 ≤ b0 * (a1 * b1 * m) := by
  have e1 : 0 ≤ (b0 * a1 - a0 * b1) * n * a1 := Int.mul_nonneg (Int.mul_nonneg (by omega) h0) (by omega)
  have e2 : 0 ≤ (b0 * a1 - a0 * b1) * (m - n) * b1 := Int.mul_nonneg (Int.mul_nonneg (by omega) (by omega)) (by omega)
  constructor
  · have : (a0 * b1 * (m - n) + b0 * a1 * n) * a1 - a0 * (a1 * b1 * m) = (b0 * a1 - a0 * b1) * n * a1 := by grind
    omega
  · have : b0 * (a1 * b1 * m) - (a0 * b1 * (m - n) + b0 * a1 * n) * b1 = (b0 * a1 - a0 * b1) * (m - n) * b1 := by grind
    omega
theorem way_le (ha : 0 < a1) (hb : 0 < b1) (hm : 0 < m) (h0 : 0 ≤ n) (h1 : n ≤ m) (h : b0 * a1 ≤ a0 * b1) :
    (a0 * b1 * (m - n) + b0 * a1 * n) * a1 ≤ a0 * (a1 * b1 * m) ∧ b0 * (a1 * b1 * m) ≤ (a0 * b1 * (m - n) + b0 * a1 * n) * b1 := by
  have e1 : 0 ≤ (a0 * b1 - b0 * a1) * n * a1 := Int.mul_nonneg (Int.mul_nonneg (by omega) h0) (by omega)
  have e2 : 0 ≤ (a0 * b1 - b0 * a1) * (m - n) * b1 := Int.mul_nonneg (Int.mul_nonneg (by omega) (by omega)) (by omega)
  constructor
  · have : a0 * (a1 * b1 * m) - (a0 * b1 * (m - n) + b0 * a1 * n) * a1 = (a0 * b1 - b0 * a1) * n * a1 := by grind
    omega
  · have : (a0 * b1 * (m - n) + b0 * a1 * n) * b1 - b0 * (a1 * b1 * m) = (a0 * b1 - b0 * a1) * (m - n) * b1 := by grind
    omega
theorem way_due2 {a b c d n m : Int} (hb : 0 < b) (hd : 0 < d) (hm : 0 < m) : fr (a * (d * b * (1 * m)) + (c * b - a * d) * (n * 1) * b) (b * (d * b * (1 * m))) = way a b c d n m := by
  have h1 : 0 < d * b * (1 * m) := Int.mul_pos (Int.mul_pos hd hb) (by omega)
  refine fr_eq (Int.mul_pos hb h1) (way_pos hb hd hm) ?_
  grind
theorem way_fr {a b c d n m : Int} (hb : 0 < b) (hd : 0 < d) (hm : 0 < m) : way (fr a b).1 (fr a b).2 (fr c d).1 (fr c d).2 n m = way a b c d n m := by
  have x := fr_x a b
  have y := fr_x c d
  have p := fr_pos (t := a) hb
  have q := fr_pos (t := c) hd
  refine fr_eq (way_pos p q hm) (way_pos hb hd hm) ?_
  grind
end
end Tf

namespace Tf
open PySem PySem.Spec PyProof.Rows L2
theorem cz {i j : Int} {k l : Nat} (h : Z k i) (h' : Z l j) (e : k + l < 1000000) : CMulW i j := by
  have := h.log
  have := h'.log
  unfold CMulW
  omega
theorem dz {i j : Int} {l : Nat} (h : 0 < j) (h' : Z l j) (e : l < 9000) : CDivW i j := by
  have := h'.log
  exact ⟨h, by omega⟩
def frV (a b : Int) : List V := [.int (fr a b).1, .int (fr a b).2]
/-- a fraction that stands at x, of a value a / b that is told in few bits -/
structure FrA (K : PySem.W.Frag) (H : Hp) (x : Addr) (a b : Int) (k : Nat) : Prop where
  at_ : SqT K H x (frV a b)
  pos : 0 < b
  za : Z k a
  zb : Z k b
theorem FrA.same {K : PySem.W.Frag} {H H' : Hp} {x : Addr} {a b : Int} {k : Nat} (h : FrA K H x a b k) (e : Same H H') : FrA K H' x a b k := ⟨Same.sqt e h.at_, h.pos, h.za, h.zb⟩
theorem FrA.le {K : PySem.W.Frag} {H : Hp} {x : Addr} {a b : Int} {k l : Nat} (h : FrA K H x a b k) (e : k ≤ l) : FrA K H x a b l := ⟨h.at_, h.pos, h.za.le e, h.zb.le e⟩
theorem FrA.z1 {K : PySem.W.Frag} {H : Hp} {x : Addr} {a b : Int} {k : Nat} (h : FrA K H x a b k) : Z k (fr a b).1 := (fr_Z h.pos h.za h.zb).1
theorem FrA.z2 {K : PySem.W.Frag} {H : Hp} {x : Addr} {a b : Int} {k : Nat} (h : FrA K H x a b k) : Z k (fr a b).2 := (fr_Z h.pos h.za h.zb).2
theorem FrA.p2 {K : PySem.W.Frag} {H : Hp} {x : Addr} {a b : Int} {k : Nat} (h : FrA K H x a b k) : 0 < (fr a b).2 := fr_pos h.pos
theorem FrA.one {K : PySem.W.Frag} {H : Hp} {x : Addr} {a : Int} {k : Nat} (h : SqT K H x [.int a, .int 1]) (z : Z k a) (hk : 1 ≤ k) : FrA K H x a 1 k := by
  refine ⟨?_, by decide, z, Z.le (a := 1) (by unfold Z; decide) hk⟩
  unfold frV
  rw [fr_one]
  exact h
theorem nu_mem (p : Int) : (nu p = (p, p + 1) ∧ p % 2 = 0) ∨ (nu p = (p + 1, p) ∧ p % 2 = 1) := by
  unfold nu
  split
  · exact .inl ⟨rfl, by assumption⟩
  · exact .inr ⟨rfl, by omega⟩
theorem nu_Z (l : List Nat) (hl : l.length ≤ 200) : Z 500 (nu (pl l)).1 ∧ Z 500 (nu (pl l)).2 ∧ Z 500 ((3 : Int) ^ l.length) := by
  have h1 := pl_nn l
  have h2 := pl_lt l
  have h3 : Z 500 ((3 : Int) ^ l.length) := (z3 l.length).le (by omega)
  have h4 : ∀ x : Int, 0 ≤ x → x ≤ 3 ^ l.length → Z 500 x := fun x a b => by unfold Z at *; omega
  rcases nu_mem (pl l) with ⟨e, _⟩ | ⟨e, _⟩ <;> rw [e] <;> exact ⟨h4 _ (by show 0 ≤ _; omega) (by show _ ≤ _; omega), h4 _ (by show 0 ≤ _; omega) (by show _ ≤ _; omega), h3⟩
theorem PotAt.ne_tup {H : Hp} {a p : Addr} {c : Int} {xs : List V} (h : PotAt H a c) (e : H p = some (.tup xs)) : p ≠ a := by
  rintro rfl
  obtain ⟨own, sd, n, hA, _⟩ := h
  rw [hA] at e
  cases e
section
variable {K : PySem.W.Frag} {H : Hp} {Q : VK} {x y : Addr} {a b c d : Int}
theorem r_eqII (h1 : SqT K H x [.int a, .int b]) (h2 : SqT K H y [.int c, .int d]) (q : Q (.bl (decide (a = c ∧ b = d))) H) : rEqD K (.ref x) (.ref y) H Q := by
  refine ⟨_, _, .tup h1 (.cons (.int _) (.cons (.int _) .nil)), .tup h2 (.cons (.int _) (.cons (.int _) .nil)), ?_, ?_, ?_⟩
  · unfold SeqAt.shaped
    simp only [PyData.canLay0, PyData.canLayAll0, PyData.depth, PyData.depthAll]
    rfl
  · unfold SeqAt.shaped
    simp only [PyData.canLay0, PyData.canLayAll0, PyData.depth, PyData.depthAll]
    rfl
  · have e : PyData.eqv (.tuple [.int a, .int b]) (.tuple [.int c, .int d]) = decide (a = c ∧ b = d) := by
      simp only [PyData.eqv, PyData.eqvAll, Bool.and_true, Bool.decide_and]
      rw [Bool.eq_iff_iff]
      simp
    rw [e]
    exact q
theorem r_neII (h1 : SqT K H x [.int a, .int b]) (h2 : SqT K H y [.int c, .int d]) (q : Q (.bl (!decide (a = c ∧ b = d))) H) : rNeD K (.ref x) (.ref y) H Q := by
  refine ⟨_, _, .tup h1 (.cons (.int _) (.cons (.int _) .nil)), .tup h2 (.cons (.int _) (.cons (.int _) .nil)), ?_, ?_, ?_⟩
  · unfold SeqAt.shaped
    simp only [PyData.canLay0, PyData.canLayAll0, PyData.depth, PyData.depthAll]
    rfl
  · unfold SeqAt.shaped
    simp only [PyData.canLay0, PyData.canLayAll0, PyData.depth, PyData.depthAll]
    rfl
  · have e : PyData.eqv (.tuple [.int a, .int b]) (.tuple [.int c, .int d]) = decide (a = c ∧ b = d) := by
      simp only [PyData.eqv, PyData.eqvAll, Bool.and_true, Bool.decide_and]
      rw [Bool.eq_iff_iff]
      simp
    rw [e]
    exact q
theorem r_gcd (q : Q (.int (G a b)) H) : rGcd [.int a, .int b] H Q := ⟨a, b, rfl, q⟩
/-- for x in t: .. -/
theorem for_T {t : Addr} {xs : List V} {g : TG} {tb : TS} {D : Ends} {σ : L2.St} {H : Hp} (Pv : Nat → L2.St → Hp → Prop) (h0 : Pv 0 σ H) (hT : ∀ i σ H, Pv i σ H → SqT K H t xs)
    (hs : ∀ i x σ H, xs[i]? = some x → Pv i σ H → g x σ H fun σ2 H2 => tb { D with nx := Pv (i + 1), ct := Pv (i + 1), bk := D.nx } σ2 H2) (hd : ∀ σ H, Pv xs.length σ H → D.nx σ H) :
    ∃ W : Nat → Nat → L2.St → Hp → Prop, (∃ m, W 0 m σ H) ∧ ∀ i m σ H, W i m σ H →
      ((Itt K t).stop i H ∧ D.nx σ H) ∨ ((Itt K t).go i H ∧ ∃ N : L2.St → Hp → Prop, (∀ σ' H', N σ' H' → ∃ m', m' < m ∧ W (i + 1) m' σ' H') ∧ ∀ x H', (Itt K t).yld i H x H' → g x σ H' fun σ2 H2 => tb { D with nx := N, ct := N, bk := D.nx } σ2 H2) := by
  refine ⟨fun i m σ H => m = xs.length - i ∧ i ≤ xs.length ∧ Pv i σ H, ⟨xs.length, by simp, Nat.zero_le _, h0⟩, ?_⟩
  rintro i m σ H ⟨rfl, hi, p⟩
  by_cases hlt : i < xs.length
  · refine .inr ⟨⟨xs, xs[i], hT _ _ _ p, List.getElem?_eq_getElem hlt⟩, Pv (i + 1), fun σ' H' p' => ⟨xs.length - (i + 1), by omega, rfl, hlt, p'⟩, fun x H' y => ?_⟩
    obtain ⟨rfl, f⟩ := y
    exact hs i x σ H' (f _ (hT _ _ _ p)) p
  · refine .inl ⟨⟨xs, hT _ _ _ p, by omega⟩, ?_⟩
    have : i = xs.length := by omega
    subst this
    exact hd σ H p
theorem r_iEnum {ta : TA} {σ : L2.St} {R : It → Hp → Prop} (h : ta σ H fun vs H1 => ∃ a xs, vs = [.ref a] ∧ SqL K H1 a xs ∧ R (Ite K a) H1) : iEnum K ta σ H R := h
theorem r_rvT {tx : TE} {σ : L2.St} (h : tx σ H fun v H1 => ∃ a xs, v = .ref a ∧ SqT K H1 a xs ∧ ∀ p, H1 p = none → Q (.ref p) (upd H1 p (.tup xs.reverse))) : tRevT K tx σ H Q := h
/-- [f(c) for c in a text], f of a bool -/
theorem lcS_bl {l : List Nat} {g : TG} {te : TE} {vs : List Nat} {σ : L2.St} {H1 : Hp} {D : Addr} {Qd : Hp → Prop} (f : Nat → Bool) (hD : H1 D = none) (hl : l.length ≤ 1000000)
    (hs : ∀ (i c : Nat) (H : Hp), l[i]? = some c → Same H1 H → ∀ R : V → Hp → Prop, R (.bl (f c)) H → g (.str (S [c])) (wipe σ vs) H fun σ2 H2 => wipe σ2 vs = wipe σ vs ∧ te σ2 H2 R)
    (hd : ∀ H, Same H1 H → H D = some (.lst ((l.map f).map V.bl)) → Qd H) :
    ∃ W : Nat → Nat → Hp → Prop, (∃ m, W 0 m (upd H1 D (.lst []))) ∧ ∀ i m H, W i m H →
      ((Its (S l)).stop i H ∧ Qd H) ∨ ((Its (S l)).go i H ∧ ∃ Nx : Hp → Prop, (∀ H', Nx H' → ∃ m', m' < m ∧ W (i + 1) m' H') ∧ ∀ x H', (Its (S l)).yld i H x H' → g x (wipe σ vs) H' fun σ2 H2 => wipe σ2 vs = wipe σ vs ∧ tYes σ2 H2 fun b H3 =>
        if b = true then te σ2 H3 fun y H4 => ∃ acc, H4 D = some (.lst acc) ∧ acc.length < sizeLine ∧ Nx (upd H4 D (.lst (acc ++ [y]))) else Nx H3) := by
  have sz : (S l).cps.size = l.length := by unfold S; simp
  refine lc_acc (n := l.length) (fun i H' => Same H1 H') (fun i v => ∃ c, l[i]? = some c ∧ v = .bl (f c)) hl (same_new hD) (fun i H' acc acc' e _ => Same.mut e hD) (fun i H' hi e => ?_) (fun H' e => ?_) ?_ ?_
  · show i < (S l).cps.size
    rw [sz]; exact hi
  · show (S l).cps.size ≤ l.length
    rw [sz]; exact Nat.le_refl _
  · rintro i x H H' acc hi e hacc ⟨rfl, c, ec, rfl⟩ R hR
    have ec2 : l[i]? = some c := by simpa [S] using ec
    exact hs i c _ ec2 e R (hR _ _ hacc ⟨c, ec2, rfl⟩ e)
  · intro H acc hl2 hv hacc e
    have : acc = (l.map f).map V.bl := by
      apply List.ext_getElem?
      intro i
      by_cases hi : i < l.length
      · obtain ⟨c, ec, ev⟩ := hv i acc[i] (List.getElem?_eq_getElem (by omega))
        rw [List.getElem?_eq_getElem (by omega), ev, List.getElem?_map, List.getElem?_map, ec]
        rfl
      · rw [List.getElem?_eq_none (by omega), List.getElem?_eq_none (by simp; omega)]
    rw [this] at hacc
    exact hd _ e hacc
theorem Eqv.two {p x' y' p' : Addr} {i j k l : Int} (h1 : SqT K H p [.ref x, .ref y]) (h2 : SqT K H x [.int i, .int j]) (h3 : SqT K H y [.int k, .int l]) (h4 : SqT K H p' [.ref x', .ref y']) (h5 : SqT K H x' [.int i, .int j]) (h6 : SqT K H y' [.int k, .int l]) : Eqv K H false 2 (.ref p) (.ref p') := by
  have fl : ∀ {u v : Addr} {i j : Int}, SqT K H u [.int i, .int j] → SqT K H v [.int i, .int j] → Eqv K H false 1 (.ref u) (.ref v) := fun {u v i j} a b => by
    refine Eqv.tup a b rfl (by show 2 ≤ 1000000; decide) fun n x y ex ey => ?_
    match n, ex, ey with
    | 0, ex, ey =>
      cases ex; cases ey
      exact Eqv.int
    | 1, ex, ey =>
      cases ex; cases ey
      exact Eqv.int
  refine Eqv.tup h1 h4 rfl (by show 2 ≤ 1000000; decide) fun n a b ex ey => ?_
  match n, ex, ey with
  | 0, ex, ey =>
    cases ex; cases ey
    exact fl h2 h5
  | 1, ex, ey =>
    cases ex; cases ey
    exact fl h3 h6
theorem Eqv.pair {p q : Addr} {i j : Int} {n : Nat} (h1 : SqT K H p [.int i, .int j]) (h2 : SqT K H q [.int i, .int j]) : Eqv K H false (n + 1) (.ref p) (.ref q) := by
  refine Eqv.tup h1 h2 rfl (by show 2 ≤ 1000000; decide) fun n x y ex ey => ?_
  match n, ex, ey with
  | 0, ex, ey =>
    cases ex; cases ey
    exact Eqv.int
  | 1, ex, ey =>
    cases ex; cases ey
    exact Eqv.int
end
end Tf

set_option Elab.async false
set_option linter.all false
set_option maxRecDepth 100000
set_option maxHeartbeats 2000000
/-! the program's laws: their texts read, their objects -/
namespace Tf
open PySem PySem.Spec PyProof.Rows L2 LamX
/-- a method of a class that keeps a promise -/
structure OkM (P : Program) (w : World) (K : PySem.W.Frag) (mg : Str → Option Value) (base : Heap) (CX : CXT) (k : Nat) (C m : Str) (ps : List Str) (sp : Sp) : Prop where
  ex : ∃ fd, Binds K fd ps [] ∧ FnOk P w K mg base CX k (He.ma K (He.ga K C) m) fd ps sp
theorem pe_mkI {X : Cx} {CX : CXT} {k : Nat} {ps : List Str} {sp : Sp} {E : XK} {C x : Str} {p pos : Pos} {e : Expr} {es : List Expr} {t : TA} (M : Mk X.K (He.ga X.K C) (He.ma X.K (He.ga X.K C) "__init__")) (F : OkM X.prog X.w X.K X.mg X.base CX k C "__init__" ps sp)
    (hr : Room (k + 1) X.A) (hg : Gl X x) (hm : X.mg x = some (.ref (He.ga X.K C))) (hx : Passes CX X E) (ha : PA X (e :: es) t) (hdb : (x == ("__debug__" : Str)) = false := by decide)
    (he : starEach (e :: es) X.env = (false, eval e X.env) :: starEach es X.env := by rfl) (hpl : (backTo pos (starEach es X.env)).any (·.1) = false := by rfl) :
    PE X (.Call (.Name x p) (e :: es) [] pos) (tMake (He.ga X.K C) sp [] E t) := by
  obtain ⟨fd, hb, F⟩ := F.ex
  exact pe_make M F hr hg hm hb .nil hx ha hdb he hpl
theorem tl_S (l : List Nat) : TL.tl (S l) = l := S_codes l
theorem map_tl_S (ls : List (List Nat)) : (ls.map S).map TL.tl = ls := by
  rw [List.map_map]
  exact (List.map_congr_left fun l _ => tl_S l).trans (List.map_id ls)
theorem join_SP (c : Nat) (ls : List (List Nat)) : Txt.join (S [c]) (ls.map S) = S (TL.joinL [c] ls) := by
  refine TL.ext_tl ?_
  rw [TL.join_eq, TL.tl_join, tl_S, tl_S, map_tl_S]
theorem split_S {c : Nat} (hc : c < 256) {ls : List (List Nat)} (hne : ls ≠ []) (h : ∀ l ∈ ls, c ∉ l) : Txt.split (S (TL.joinL [c] ls)) (S [c]) = ls.map S := by
  rw [← join_SP]
  refine TL.split_join (y := S [c]) (s := c) (S := []) (tl_S _) (by simp [S]; exact hc) (fun z => hne (List.map_eq_nil_iff.mp z)) fun p hp => ?_
  obtain ⟨l, hl, rfl⟩ := List.mem_map.mp hp
  rw [tl_S]
  exact h l hl
/-- a name -/
def Nm (l : List Nat) : Prop := 1 ≤ l.length ∧ l.length ≤ 6 ∧ ∀ c ∈ l, 97 ≤ c ∧ c ≤ 122
theorem Nm.sp {l : List Nat} (h : Nm l) : 32 ∉ l := fun z => by have := h.2.2 _ z; omega
theorem Nm.nl {l : List Nat} (h : Nm l) : 10 ∉ l := fun z => by have := h.2.2 _ z; omega
/-- the laws that the program reads -/
structure LawG (rs : List Row3) : Prop where
  ne : rs ≠ []
  len : rs.length ≤ 64
  nm : ∀ r ∈ rs, Nm r.nm
  u : Uniq rs
  cl : Closed rs
theorem LawG.way {rs : List Row3} (h : LawG rs) {r : Row3} (hr : r ∈ rs) {c : Nat} (hc : c = 110 ∨ c = 102 ∨ c = 115) : Nm (r.way c) := by
  obtain ⟨r2, h2, e⟩ := List.mem_map.mp (h.cl r hr c hc)
  rw [← e]
  exact h.nm r2 h2
theorem Law3.g {rs : List Row3} (h : Law3 rs) : LawG rs := by
  refine ⟨h.ne, Nat.le_trans h.len (by decide), fun r hr => ?_, h.u, h.cl⟩
  obtain ⟨h1, c, e, h2, h3⟩ := nmL_one (h.nm1 hr)
  rw [e]
  exact ⟨Nat.le_refl 1, by show 1 ≤ 6; decide, fun x hx => by rw [List.mem_singleton.mp hx]; omega⟩
/-- the words of a state's lines -/
def stW (r : Row3) : List (List Nat) := [[115, 116, 97, 116, 101], r.nm] ++ (if r.oft then [[111, 102, 116, 101, 110]] else [])
def onW (c : Nat) (w : List Nat) : List (List Nat) := [[111, 110], [c], w]
theorem stL_eq (r : Row3) : stL r = TL.joinL [32] (stW r) := by
  unfold stL stW
  cases r.oft
  · simp [TL.joinL]
  · simp [TL.joinL]
theorem onL_eq (c : Nat) (w : List Nat) : onL c w = TL.joinL [32] (onW c w) := by
  unfold onL onW
  simp [TL.joinL]
theorem stL_split {r : Row3} (h : Nm r.nm) : Txt.split (S (stL r)) (S [32]) = (stW r).map S := by
  rw [stL_eq]
  refine split_S (by decide) (by unfold stW; simp) fun l hl => ?_
  unfold stW at hl
  rcases List.mem_append.mp hl with hl | hl
  · simp only [List.mem_cons, List.not_mem_nil, or_false] at hl
    rcases hl with rfl | rfl
    · decide
    · exact h.sp
  · cases ho : r.oft
    · rw [ho] at hl; cases hl
    · rw [ho, if_pos rfl, List.mem_singleton] at hl
      subst hl
      decide
theorem onL_split {c : Nat} {w : List Nat} (hc : c = 110 ∨ c = 102 ∨ c = 115) (h : Nm w) : Txt.split (S (onL c w)) (S [32]) = (onW c w).map S := by
  rw [onL_eq]
  refine split_S (by decide) (by unfold onW; simp) fun l hl => ?_
  unfold onW at hl
  simp only [List.mem_cons, List.not_mem_nil, or_false] at hl
  rcases hl with rfl | rfl | rfl
  · decide
  · rcases hc with rfl | rfl | rfl <;> decide
  · exact h.sp
/-- the line that stands at the place n of a law's lines -/
def lineF (rs : List Row3) (n : Nat) : List Nat := (linesF rs).getD n []
theorem lines_row {rs : List Row3} : ∀ {k : Nat} {r : Row3} {j : Nat}, rs[k]? = some r → j < 4 → (rs.flatMap rowL)[4 * k + j]? = (rowL r)[j]? := by
  induction rs with
  | nil => intro k r j e; simp at e
  | cons r0 rs ih =>
    intro k r j e hj
    rw [List.flatMap_cons]
    cases k with
    | zero =>
      obtain rfl : r0 = r := Option.some.inj e
      rw [List.getElem?_append_left (by show _ < 4; omega)]
      congr 1
      omega
    | succ k =>
      rw [List.getElem?_append_right (by show 4 ≤ _; omega)]
      rw [show 4 * (k + 1) + j - (rowL r0).length = 4 * k + j by show _ - 4 = _; omega]
      exact ih e hj
theorem lines_at {rs : List Row3} {n : Nat} {l : List Nat} (e : (linesF rs)[n]? = some l) : (n = 0 ∧ l = [108, 97, 119]) ∨ ∃ k r j, n = 4 * k + j + 1 ∧ j < 4 ∧ rs[k]? = some r ∧ (rowL r)[j]? = some l := by
  unfold linesF at e
  cases n with
  | zero => exact .inl ⟨rfl, (Option.some.inj e).symm⟩
  | succ n =>
    right
    rw [List.getElem?_cons_succ] at e
    have hn : n < 4 * rs.length := by
      have := (List.getElem?_eq_some_iff.mp e).1
      have h2 := linesF_len (rs := rs)
      unfold linesF at h2
      rw [List.length_cons] at h2
      omega
    have hk : n / 4 < rs.length := by omega
    refine ⟨n / 4, rs[n / 4], n % 4, by omega, by omega, List.getElem?_eq_getElem hk, ?_⟩
    rw [← lines_row (rs := rs) (k := n / 4) (List.getElem?_eq_getElem hk) (by omega), show 4 * (n / 4) + n % 4 = n by omega]
    exact e
theorem lines_head {rs : List Row3} {k : Nat} {r : Row3} (e : rs[k]? = some r) : (linesF rs)[4 * k + 1]? = some (stL r) := by
  unfold linesF
  rw [List.getElem?_cons_succ, show 4 * k = 4 * k + 0 by omega, lines_row e (by decide)]
  rfl
theorem lines_on {rs : List Row3} {k j : Nat} {r : Row3} {c : Nat} (e : rs[k]? = some r) (hj : [110, 102, 115][j]? = some c) : (linesF rs)[4 * k + 1 + (1 + j)]? = some (onL c (r.way c)) := by
  have hj3 : j < 3 := (List.getElem?_eq_some_iff.mp hj).1
  unfold linesF
  rw [show 4 * k + 1 + (1 + j) = (4 * k + (1 + j)) + 1 by omega, List.getElem?_cons_succ, lines_row e (by omega)]
  match j, hj with
  | 0, hj => cases hj; rfl
  | 1, hj => cases hj; rfl
  | 2, hj => cases hj; rfl
theorem line_nl {rs : List Row3} (h : LawG rs) {l : List Nat} (hl : l ∈ linesF rs) : 10 ∉ l := by
  unfold linesF at hl
  rcases List.mem_cons.mp hl with rfl | hl
  · decide
  · obtain ⟨r, hr, hl⟩ := List.mem_flatMap.mp hl
    have n1 := (h.nm r hr).nl
    have w : ∀ c, c = 110 ∨ c = 102 ∨ c = 115 → 10 ∉ r.way c := fun c hc => (h.way hr hc).nl
    simp only [rowL, List.mem_cons, List.not_mem_nil, or_false] at hl
    rcases hl with rfl | rfl | rfl | rfl
    · unfold stL
      simp only [List.mem_append]
      rintro ((z | z) | z)
      · revert z; decide
      · exact n1 z
      · cases ho : r.oft
        · rw [ho] at z; cases z
        · rw [ho, if_pos rfl] at z; revert z; decide
    · unfold onL; simp only [List.mem_append]
      rintro (((z | z) | z) | z)
      · revert z; decide
      · revert z; decide
      · revert z; decide
      · exact w 110 (.inl rfl) z
    · unfold onL; simp only [List.mem_append]
      rintro (((z | z) | z) | z)
      · revert z; decide
      · revert z; decide
      · revert z; decide
      · exact w 102 (.inr (.inl rfl)) z
    · unfold onL; simp only [List.mem_append]
      rintro (((z | z) | z) | z)
      · revert z; decide
      · revert z; decide
      · revert z; decide
      · exact w 115 (.inr (.inr rfl)) z
theorem line_short {rs : List Row3} (h : LawG rs) {l : List Nat} (hl : l ∈ linesF rs) : l.length ≤ 20 := by
  unfold linesF at hl
  rcases List.mem_cons.mp hl with rfl | hl
  · decide
  · obtain ⟨r, hr, hl⟩ := List.mem_flatMap.mp hl
    have n1 := (h.nm r hr).2.1
    have w : ∀ c, c = 110 ∨ c = 102 ∨ c = 115 → (r.way c).length ≤ 6 := fun c hc => (h.way hr hc).2.1
    simp only [rowL, List.mem_cons, List.not_mem_nil, or_false] at hl
    rcases hl with rfl | rfl | rfl | rfl
    · unfold stL
      simp only [List.length_append]
      cases r.oft <;> simp <;> omega
    · have := w 110 (.inl rfl); simp [onL]; omega
    · have := w 102 (.inr (.inl rfl)); simp [onL]; omega
    · have := w 115 (.inr (.inr rfl)); simp [onL]; omega
theorem text_split {rs : List Row3} (h : LawG rs) : Txt.split (textF rs) (S [10]) = (linesF rs).map S := by
  unfold textF
  rw [join_SP]
  exact split_S (by decide) (by unfold linesF; simp) fun l hl => line_nl h hl
theorem joinL_len (c : Nat) : ∀ ls : List (List Nat), (∀ l ∈ ls, l.length ≤ 20) → (TL.joinL [c] ls).length ≤ 21 * ls.length
  | [], _ => by simp [TL.joinL]
  | [l], h => by have := h l (by simp); simp [TL.joinL]; omega
  | l :: m :: r, h => by
    have h1 := h l (by simp)
    have h2 := joinL_len c (m :: r) fun x hx => h x (List.mem_cons_of_mem _ hx)
    simp only [TL.joinL, List.length_append, List.length_cons, List.length_nil] at h2 ⊢
    omega
theorem text_len {rs : List Row3} (h : LawG rs) : (textF rs).length ≤ 21 * 257 := by
  unfold textF
  rw [join_SP, S_len]
  have h1 := joinL_len 10 (linesF rs) fun l hl => line_short h hl
  rw [linesF_len] at h1
  have := h.len
  omega
theorem r_newS {H : Hp} {Q : VK} {ls : List (List Nat)} (h : ∀ H1 p, Same H H1 → H p = none → H1 p = some (.lst (ls.map fun l => V.str (S l))) → Q (.ref p) H1) : rNewStrs (ls.map S) H Q := fun p hp =>
  h _ p (same_new hp) hp (by rw [upd_same, List.map_map]; rfl)
theorem words_at {ls : List (List Nat)} {j : Nat} {l : List Nat} (e : ls[j]? = some l) : atI (ls.map fun l => V.str (S l)) (j : Int) = some (V.str (S l)) := atI_nat (by rw [List.getElem?_map, e]; rfl)
theorem law_split : Txt.split (S [108, 97, 119]) (S [32]) = ([[108, 97, 119]] : List (List Nat)).map S :=
  split_S (c := 32) (ls := [[108, 97, 119]]) (by decide) (by simp) fun l hl => by rw [List.mem_singleton.mp hl]; decide
theorem stW_f {r : Row3} (h : r.oft = false) : stW r = [[115, 116, 97, 116, 101], r.nm] := by unfold stW; rw [h]; rfl
theorem stW_t {r : Row3} (h : r.oft = true) : stW r = [[115, 116, 97, 116, 101], r.nm, [111, 102, 116, 101, 110]] := by unfold stW; rw [h]; rfl
theorem stW_1 (r : Row3) : (stW r)[1]? = some r.nm := by unfold stW; rfl
theorem stW_len (r : Row3) : decide (V.int (((stW r).map fun l => V.str (S l)).length : Int) = V.int 3) = r.oft := by
  cases h : r.oft
  · rw [stW_f h]; rfl
  · rw [stW_t h]; rfl
theorem vi_ne {a b : Int} (h : a ≠ b) : ¬ V.int a = V.int b := fun z => h (V.int.inj z)
/-- the names seen when a law's lines are read up to the place n -/
theorem seen_head {k : Nat} : (4 * k + 0 + 1 + 2) / 4 = k := by omega
theorem nm_not {rs : List Row3} (u : Uniq rs) {k : Nat} {r : Row3} (e : rs[k]? = some r) : r.nm ∉ (rs.take k).map (·.nm) := fun h => by
  have h1 : rs.take (k + 1) = rs.take k ++ [r] := take_snoc' e
  have h2 : ((rs.take (k + 1)).map (·.nm)).Nodup := List.Sublist.nodup (List.Sublist.map _ (List.take_sublist ..)) u
  rw [h1, List.map_append, List.nodup_append] at h2
  exact h2.2.2 _ h _ (List.mem_singleton.mpr rfl) rfl
theorem line_head_at {rs : List Row3} {i : Nat} {l : List Nat} (e : (linesF rs)[i]? = some l) (h : i % 4 = 1) : ∃ k r, rs[k]? = some r ∧ l = stL r ∧ i = 4 * k + 1 := by
  rcases lines_at e with ⟨rfl, _⟩ | ⟨k, r, j, rfl, hj, er, hr⟩
  · omega
  · obtain rfl : j = 0 := by omega
    exact ⟨k, r, er, (Option.some.inj hr).symm, by omega⟩
theorem line_on_at {rs : List Row3} {i : Nat} {l : List Nat} (e : (linesF rs)[i]? = some l) (h0 : 0 < i) (h : i % 4 ≠ 1) : ∃ r c, r ∈ rs ∧ (c = 110 ∨ c = 102 ∨ c = 115) ∧ l = onL c (r.way c) := by
  rcases lines_at e with ⟨rfl, _⟩ | ⟨k, r, j, rfl, hj, er, hr⟩
  · omega
  · have hm := List.mem_of_getElem? er
    match j, hj, hr with
    | 0, _, _ => omega
    | 1, _, hr => exact ⟨r, 110, hm, .inl rfl, (Option.some.inj hr).symm⟩
    | 2, _, hr => exact ⟨r, 102, hm, .inr (.inl rfl), (Option.some.inj hr).symm⟩
    | 3, _, hr => exact ⟨r, 115, hm, .inr (.inr rfl), (Option.some.inj hr).symm⟩
theorem r_dput {td ty tv : TE} {D : Ends} {σ : L2.St} {H : Hp} (h : tv σ H fun v H1 => td σ H1 fun x H2 => ty σ H2 fun y H3 => ∃ a H4, x = .ref a ∧ DPut H3 a y v H4 ∧ D.nx σ H4) : sDPut td ty tv D σ H := h
theorem r_dc {wi : TI} {g : TG} {tt : TT} {tk tv : TE} {vs : List Nat} {σ : L2.St} {H : Hp} {Q : VK} (h : wi σ H fun J H1 => ∀ D, H1 D = none → ∃ W : Nat → Nat → Hp → Prop, (∃ m, W 0 m (upd H1 D (.dK []))) ∧ ∀ i m H, W i m H →
  (J.stop i H ∧ Q (.ref D) H) ∨ (J.go i H ∧ ∃ Nx : Hp → Prop, (∀ H', Nx H' → ∃ m', m' < m ∧ W (i + 1) m' H') ∧ ∀ x H', J.yld i H x H' → g x (wipe σ vs) H' fun σ2 H2 => wipe σ2 vs = wipe σ vs ∧ tt σ2 H2 fun b H3 =>
    if b = true then tk σ2 H3 fun y H4 => tv σ2 H4 fun z H5 => ∃ kvs k, y = kV k ∧ H5 D = some (.dK kvs) ∧ kvs.length < sizeLine ∧ Nx (upd H5 D (.dK (putK kvs k z))) else Nx H3)) : tDc wi g tt tk tv vs σ H Q := h
theorem r_rng3 {ta : TA} {σ : L2.St} {H : Hp} {R : It → Hp → Prop} (h : ta σ H fun vs H1 => ∃ (i j c : Int) (n : Nat), vs = [.int i, .int j, .int c] ∧ RgC i j c n ∧ R (Itc i c n) H1) : iRng3 ta σ H R := h
theorem r_enX {K : PySem.W.Frag} {ta tk : TA} {σ : L2.St} {H : Hp} {R : It → Hp → Prop} (h : ta σ H fun vs H1 => tk σ H1 fun zs H2 => ∃ x k, vs = [.str x] ∧ zs = [.int k] ∧ -2 ^ 63 ≤ k ∧ k < 2 ^ 63 ∧ R (ItEX k x) H2) : iEnX K ta tk σ H R := h
theorem r_slS3 {K : PySem.W.Frag} {te : TE} {tl th ts : L2.TO} {σ : L2.St} {H : Hp} {Q : VK} (h : te σ H fun x H1 => tl σ H1 fun lo H2 => th σ H2 fun hi H3 => ts σ H3 fun st H4 =>
  ∃ a xs, x = .ref a ∧ SqL K H4 a xs ∧ st ≠ some 0 ∧ ∀ p, H4 p = none → Q (.ref p) (upd H4 p (.lst (pickV xs lo hi st)))) : tSlS K te tl th ts σ H Q := h
theorem r_sfld {K : PySem.W.Frag} {ta tv : TE} {f : Str} {D : Ends} {σ : L2.St} {H : Hp} (h : tv σ H fun y H1 => ta σ H1 fun x H2 => ∃ a C dx fs, x = .ref a ∧ H2 a = some (.ins C dx fs) ∧ Cls K C ∧ NoAttr K C f ∧ fs.length < 1000 ∧
  D.nx σ (upd H2 a (.ins C dx (putF f y fs)))) : sFld K ta tv f D σ H := h
theorem r_fld {K : PySem.W.Frag} {ta : TE} {f : Str} {σ : L2.St} {H : Hp} {Q : VK} (h : ta σ H fun x H1 => ∃ a C dx fs v, x = .ref a ∧ H1 a = some (.ins C dx fs) ∧ Cls K C ∧ NoAttr K C f ∧ fs.lookup f = some v ∧ Q v H1) : tFld K ta f σ H Q := h
theorem dc_J {J : It} {n : Nat} {g : TG} {tt : TT} {tk tv : TE} {vs : List Nat} {σ : L2.St} {H1 : Hp} {D : Addr} {Qd : Hp → Prop} (Pv : Nat → Hp → Prop) (h0 : Pv 0 (upd H1 D (.dK []))) (hgo : ∀ i H, i < n → Pv i H → J.go i H) (hstop : ∀ H, Pv n H → J.stop n H)
    (hs : ∀ (i : Nat) (x : V) (H H' : Hp), i < n → Pv i H → J.yld i H x H' → g x (wipe σ vs) H' fun σ2 H2 => wipe σ2 vs = wipe σ vs ∧ tt σ2 H2 fun b H3 =>
      if b = true then tk σ2 H3 fun y H4 => tv σ2 H4 fun z H5 => ∃ kvs k, y = kV k ∧ H5 D = some (.dK kvs) ∧ kvs.length < sizeLine ∧ Pv (i + 1) (upd H5 D (.dK (putK kvs k z))) else Pv (i + 1) H3) (hd : ∀ H, Pv n H → Qd H) :
    ∃ W : Nat → Nat → Hp → Prop, (∃ m, W 0 m (upd H1 D (.dK []))) ∧ ∀ i m H, W i m H →
      (J.stop i H ∧ Qd H) ∨ (J.go i H ∧ ∃ Nx : Hp → Prop, (∀ H', Nx H' → ∃ m', m' < m ∧ W (i + 1) m' H') ∧ ∀ x H', J.yld i H x H' → g x (wipe σ vs) H' fun σ2 H2 => wipe σ2 vs = wipe σ vs ∧ tt σ2 H2 fun b H3 =>
        if b = true then tk σ2 H3 fun y H4 => tv σ2 H4 fun z H5 => ∃ kvs k, y = kV k ∧ H5 D = some (.dK kvs) ∧ kvs.length < sizeLine ∧ Nx (upd H5 D (.dK (putK kvs k z))) else Nx H3) := by
  refine ⟨fun i m H => m = n - i ∧ i ≤ n ∧ Pv i H, ⟨n, by simp, Nat.zero_le _, h0⟩, ?_⟩
  rintro i m H ⟨rfl, hi, p⟩
  by_cases hlt : i < n
  · exact .inr ⟨hgo i H hlt p, Pv (i + 1), fun H' p' => ⟨n - (i + 1), by omega, rfl, hlt, p'⟩, fun x H' y => hs i x H H' hlt p y⟩
  · have : i = n := by omega
    subst this
    exact .inl ⟨hstop H p, hd H p⟩
theorem dc_enS {k0 : Int} {l : List Nat} {g : TG} {tt : TT} {tk tv : TE} {vs : List Nat} {σ : L2.St} {H1 : Hp} {D : Addr} {Qd : Hp → Prop} (Pv : Nat → Hp → Prop) (h0 : Pv 0 (upd H1 D (.dK [])))
    (hs : ∀ (i c : Nat) (H : Hp) (T : Addr), l[i]? = some c → Pv i H → H T = none → g (.ref T) (wipe σ vs) (upd H T (.tup [.int (k0 + i), .str (S [c])])) fun σ2 H2 => wipe σ2 vs = wipe σ vs ∧ tt σ2 H2 fun b H3 =>
      if b = true then tk σ2 H3 fun y H4 => tv σ2 H4 fun z H5 => ∃ kvs k, y = kV k ∧ H5 D = some (.dK kvs) ∧ kvs.length < sizeLine ∧ Pv (i + 1) (upd H5 D (.dK (putK kvs k z))) else Pv (i + 1) H3) (hd : ∀ H, Pv l.length H → Qd H) :
    ∃ W : Nat → Nat → Hp → Prop, (∃ m, W 0 m (upd H1 D (.dK []))) ∧ ∀ i m H, W i m H →
      ((ItEX k0 (S l)).stop i H ∧ Qd H) ∨ ((ItEX k0 (S l)).go i H ∧ ∃ Nx : Hp → Prop, (∀ H', Nx H' → ∃ m', m' < m ∧ W (i + 1) m' H') ∧ ∀ x H', (ItEX k0 (S l)).yld i H x H' → g x (wipe σ vs) H' fun σ2 H2 => wipe σ2 vs = wipe σ vs ∧ tt σ2 H2 fun b H3 =>
        if b = true then tk σ2 H3 fun y H4 => tv σ2 H4 fun z H5 => ∃ kvs k, y = kV k ∧ H5 D = some (.dK kvs) ∧ kvs.length < sizeLine ∧ Nx (upd H5 D (.dK (putK kvs k z))) else Nx H3) := by
  have sz : (S l).cps.size = l.length := by unfold S; simp
  refine dc_J (n := l.length) Pv h0 (fun i H hi _ => ?_) (fun H _ => ?_) (fun i x H H' hi p y => ?_) hd
  · show i < (S l).cps.size
    rw [sz]; exact hi
  · show (S l).cps.size ≤ l.length
    rw [sz]; exact Nat.le_refl _
  · obtain ⟨T, c, rfl, hT, rfl, e⟩ := y
    exact hs i c H T (by simpa [S] using e) p hT
theorem rg4 {n : Nat} (h : n ≤ 64) : RgC 1 ((1 + 4 * n : Nat) : Int) 4 n := by
  have e : ∀ n : Nat, n < 65 → (Builtin.Range.small 1 ((1 + 4 * n : Nat) : Int) 4 = true ∧ Builtin.Range.rangeSize 1 ((1 + 4 * n : Nat) : Int) 4 = (n : Int)) := by decide +kernel
  exact ⟨by decide, by decide, (e n (by omega)).1, (e n (by omega)).2⟩
theorem putK_new {κ : Type} [DecidableEq κ] {kvs : List (κ × V)} {k : κ} {v : V} (h : k ∉ kvs.map (·.1)) : putK kvs k v = kvs ++ [(k, v)] := by
  unfold putK
  rw [if_neg]
  intro z
  obtain ⟨p, hp, e⟩ := List.any_eq_true.mp z
  exact h (List.mem_map.mpr ⟨p, hp, of_decide_eq_true e⟩)
theorem nfs_new {j c : Nat} {f : Nat → List Nat} (e : ([110, 102, 115] : List Nat)[j]? = some c) : putK ((([110, 102, 115] : List Nat).take j).map fun c => ((Sum.inr (S [c]) : Key), V.str (S (f c)))) (Sum.inr (S [c])) (.str (S (f c))) = (([110, 102, 115] : List Nat).take (j + 1)).map fun c => (Sum.inr (S [c]), V.str (S (f c))) := by
  rw [putK_new, take_snoc' e, List.map_append]
  · rfl
  · have hj : j < 3 := (List.getElem?_eq_some_iff.mp e).1
    rw [List.map_map]
    intro h
    obtain ⟨d, hd, hc⟩ := List.mem_map.mp h
    have hc2 : c = d := by
      have := Sum.inr.inj hc
      have h2 := congrArg (fun z : Str => z.cps.toList) this
      simpa [S] using h2.symm
    subst hc2
    match j, e with
    | 0, e => cases hd
    | 1, e => cases e; revert hd; decide
    | 2, e => cases e; revert hd; decide
theorem ways_new {rs : List Row3} {H : Hp} {kvs : List (Key × V)} {i : Nat} {r : Row3} {v : V} (u : Uniq rs) (hk : Paired (WRow H) (rs.take i) kvs) (er : rs[i]? = some r) : putK kvs (.inr (S r.nm)) v = kvs ++ [(.inr (S r.nm), v)] := by
  refine putK_new fun h => ?_
  rw [ways_keys hk] at h
  obtain ⟨d, hd, hc⟩ := List.mem_map.mp h
  have h2 := congrArg (fun z : Str => z.cps.toList) (Sum.inr.inj hc)
  have h3 : d.nm = r.nm := by simpa [S] using h2
  exact nm_not u er (List.mem_map.mpr ⟨d, hd, h3⟩)
theorem ways_not {rs : List Row3} {H : Hp} {kvs : List (Key × V)} {f : Nat → List Nat} {d p : Addr} (hk : Paired (WRow H) rs kvs) (e : H p = some (.dK kvs)) (h : H d = some (.dK (wK f))) : d ≠ p := fun z => by
  subst z
  rw [e] at h
  have : kvs = wK f := by injection h with h; injection h
  obtain ⟨r, _, d2, e2, _⟩ := paired_get hk (i := 0) (y := (.inr (S [110]), .str (S (f 110)))) (by rw [this]; rfl)
  cases (Prod.mk.inj e2).2
/-- an object of the class C, which is a law -/
def RuleAt (C : Addr) (H : Hp) (x : Addr) (rs : List Row3) : Prop := ∃ dx n o m st, H x = some (.ins C dx [("text", .str (textF rs)), ("names", .ref n), ("often", .ref o), ("marked", .ref m), ("steps", .ref st)]) ∧
  H n = some (.tup ((rs.map (·.nm)).map fun l => V.str (S l))) ∧ H o = some (.tup ((oftens rs).map fun l => V.str (S l))) ∧ H m = some (.dK (rs.map fun r => (.inr (S r.nm), .bl r.oft))) ∧ WaysAt H st rs
theorem RuleAt.same {C : Addr} {H H1 : Hp} {x : Addr} {rs : List Row3} (e : Same H H1) (h : RuleAt C H x rs) : RuleAt C H1 x rs := by
  obtain ⟨dx, n, o, m, st, h1, h2, h3, h4, h5⟩ := h
  exact ⟨dx, n, o, m, st, e _ _ h1, e _ _ h2, e _ _ h3, e _ _ h4, h5.same e⟩
theorem range_pick {α : Type} {rs : List Row3} {f : Nat → Option α} {h : Row3 → α} (e : ∀ k r, rs[k]? = some r → f k = some (h r)) : ∀ n, n ≤ rs.length → (List.range n).filterMap f = (rs.take n).map h
  | 0, _ => by simp
  | n + 1, hn => by
    have e1 : rs[n]? = some rs[n] := List.getElem?_eq_getElem hn
    rw [List.range_succ, List.filterMap_append, range_pick e n (by omega), take_snoc' e1, List.map_append]
    simp [e n _ e1]
theorem heads_pick {rs : List Row3} (h : rs.length ≤ 64) : pickV ((linesF rs).map fun l => V.str (S l)) (some 1) none (some 4) = rs.map fun r => V.str (S (stL r)) := by
  have e : ∀ n : Nat, n < 65 → sliceRange (sliceBounds (some 1) none (some 4) (1 + 4 * n)).1 (sliceBounds (some 1) none (some 4) (1 + 4 * n)).2.1 (sliceBounds (some 1) none (some 4) (1 + 4 * n)).2.2 = (List.range n).map fun k => 4 * k + 1 := by decide +kernel
  unfold pickV
  rw [List.length_map, linesF_len, e _ (by omega), List.filterMap_map]
  have := range_pick (rs := rs) (f := fun k => ((linesF rs).map fun l => V.str (S l))[4 * k + 1]?) (h := fun r => V.str (S (stL r))) (fun k r er => by rw [List.getElem?_map, lines_head er]; rfl) rs.length (Nat.le_refl _)
  rw [List.take_length] at this
  exact this
/-- what is at hand while a law's object is filled -/
structure IniC (x D p1 : Addr) (ps : List Addr) (rs : List Row3) (H X : Hp) : Prop where
  b : But x H X
  d : X D = some (.lst (ps.map V.ref))
  h : Paired (fun r p => X p = some (.lst ((stW r).map fun l => V.str (S l)))) rs ps
  l : X p1 = some (.lst ((linesF rs).map fun l => V.str (S l)))
section
variable {x D p1 C dx : Addr} {ps : List Addr} {rs : List Row3} {H X Y : Hp} {fs gs : List (Str × V)}
theorem IniC.same (m : IniC x D p1 ps rs H X) (e : Same X Y) : IniC x D p1 ps rs H Y := ⟨m.b.trans (But.of e), e _ _ m.d, m.h.mono fun _ _ h => e _ _ h, e _ _ m.l⟩
theorem not_ins {p : Addr} {ys : List V} (hx : X x = some (.ins C dx fs)) (h : X p = some (.lst ys)) : p ≠ x := fun z => by subst z; rw [hx] at h; cases h
theorem IniC.put (m : IniC x D p1 ps rs H X) (hx : X x = some (.ins C dx fs)) : IniC x D p1 ps rs H (upd X x (.ins C dx gs)) :=
  ⟨m.b.put, (upd_ne (not_ins hx m.d)).trans m.d, m.h.mono fun _ _ h => (upd_ne (not_ins hx h)).trans h, (upd_ne (not_ins hx m.l)).trans m.l⟩
end
theorem oftens_snoc {rs : List Row3} {r : Row3} : oftens (rs ++ [r]) = oftens rs ++ (if r.oft = true then [r.nm] else []) := by
  unfold oftens
  rw [List.filter_append, List.map_append]
  cases h : r.oft
  · simp [h]
  · simp [h]
theorem mark_new {rs : List Row3} {i : Nat} {r : Row3} {v : V} (u : Uniq rs) (er : rs[i]? = some r) : putK ((rs.take i).map fun r => ((.inr (S r.nm) : Key), V.bl r.oft)) (.inr (S r.nm)) v = ((rs.take i).map fun r => (.inr (S r.nm), V.bl r.oft)) ++ [(.inr (S r.nm), v)] := by
  refine putK_new fun h => ?_
  rw [List.map_map] at h
  obtain ⟨d, hd, hc⟩ := List.mem_map.mp h
  have h2 := congrArg (fun z : Str => z.cps.toList) (Sum.inr.inj hc)
  have h3 : d.nm = r.nm := by simpa [S] using h2
  exact nm_not u er (List.mem_map.mpr ⟨d, hd, h3⟩)
theorem dc_list {K : PySem.W.Frag} {a : Addr} {xs : List V} {g : TG} {tt : TT} {tk tv : TE} {vs : List Nat} {σ : L2.St} {H1 : Hp} {D : Addr} {Qd : Hp → Prop} (Pv : Nat → Hp → Prop) (h0 : Pv 0 (upd H1 D (.dK []))) (hl : ∀ i H, Pv i H → SqL K H a xs)
    (hs : ∀ i x H, xs[i]? = some x → Pv i H → g x (wipe σ vs) H fun σ2 H2 => wipe σ2 vs = wipe σ vs ∧ tt σ2 H2 fun b H3 =>
      if b = true then tk σ2 H3 fun y H4 => tv σ2 H4 fun z H5 => ∃ kvs k, y = kV k ∧ H5 D = some (.dK kvs) ∧ kvs.length < sizeLine ∧ Pv (i + 1) (upd H5 D (.dK (putK kvs k z))) else Pv (i + 1) H3) (hd : ∀ H, Pv xs.length H → Qd H) :
    ∃ W : Nat → Nat → Hp → Prop, (∃ m, W 0 m (upd H1 D (.dK []))) ∧ ∀ i m H, W i m H →
      ((Itl K a).stop i H ∧ Qd H) ∨ ((Itl K a).go i H ∧ ∃ Nx : Hp → Prop, (∀ H', Nx H' → ∃ m', m' < m ∧ W (i + 1) m' H') ∧ ∀ x H', (Itl K a).yld i H x H' → g x (wipe σ vs) H' fun σ2 H2 => wipe σ2 vs = wipe σ vs ∧ tt σ2 H2 fun b H3 =>
        if b = true then tk σ2 H3 fun y H4 => tv σ2 H4 fun z H5 => ∃ kvs k, y = kV k ∧ H5 D = some (.dK kvs) ∧ kvs.length < sizeLine ∧ Nx (upd H5 D (.dK (putK kvs k z))) else Nx H3) := by
  refine dc_J (n := xs.length) Pv h0 (fun i H hi p => ?_) (fun H p => ?_) (fun i x H H' hi p y => ?_) hd
  · exact ⟨xs, xs[i], hl i H p, List.getElem?_eq_getElem hi⟩
  · exact ⟨xs, hl _ H p, Nat.le_refl _⟩
  · obtain ⟨rfl, f⟩ := y
    exact hs i x H' (f xs (hl i H' p)) p
theorem law_fields (a b c d e : V) : putF "steps" e (putF "marked" d (putF "often" c (putF "names" b (putF "text" a [])))) = [(("text" : Str), a), ("names", b), ("often", c), ("marked", d), ("steps", e)] := by
  have n1 : ¬ ("text" : Str) = "names" := by decide
  have n2 : ¬ ("text" : Str) = "often" := by decide
  have n3 : ¬ ("text" : Str) = "marked" := by decide
  have n4 : ¬ ("text" : Str) = "steps" := by decide
  have n5 : ¬ ("names" : Str) = "often" := by decide
  have n6 : ¬ ("names" : Str) = "marked" := by decide
  have n7 : ¬ ("names" : Str) = "steps" := by decide
  have n8 : ¬ ("often" : Str) = "marked" := by decide
  have n9 : ¬ ("often" : Str) = "steps" := by decide
  have n0 : ¬ ("marked" : Str) = "steps" := by decide
  simp only [putF, if_neg n1, if_neg n2, if_neg n3, if_neg n4, if_neg n5, if_neg n6, if_neg n7, if_neg n8, if_neg n9, if_neg n0]
theorem putF_len (f : Str) (v : V) : ∀ fs : List (Str × V), (putF f v fs).length ≤ fs.length + 1
  | [] => by simp [putF]
  | (g, x) :: r => by
    have := putF_len f v r
    unfold putF
    split <;> simp <;> omega
theorem len_fs (f : Str) (v : V) {fs : List (Str × V)} {k : Nat} (h : fs.length ≤ k) (hk : k < 900) : (putF f v fs).length ≤ k + 1 ∧ (putF f v fs).length < 1000 := by
  have := putF_len f v fs
  omega
section
variable {C : Addr} {H : Hp} {x : Addr} {rs : List Row3}
theorem RuleAt.steps (h : RuleAt C H x rs) : ∃ dx fs st, H x = some (.ins C dx fs) ∧ fs.lookup ("steps" : Str) = some (V.ref st) ∧ WaysAt H st rs := by
  obtain ⟨dx, n, o, m, st, h1, h2, h3, h4, h5⟩ := h
  exact ⟨dx, _, st, h1, rfl, h5⟩
theorem RuleAt.names (h : RuleAt C H x rs) : ∃ dx fs n, H x = some (.ins C dx fs) ∧ fs.lookup ("names" : Str) = some (V.ref n) ∧ H n = some (.tup ((rs.map (·.nm)).map fun l => V.str (S l))) := by
  obtain ⟨dx, n, o, m, st, h1, h2, h3, h4, h5⟩ := h
  exact ⟨dx, _, n, h1, rfl, h2⟩
theorem RuleAt.often (h : RuleAt C H x rs) : ∃ dx fs n, H x = some (.ins C dx fs) ∧ fs.lookup ("often" : Str) = some (V.ref n) ∧ H n = some (.tup ((oftens rs).map fun l => V.str (S l))) := by
  obtain ⟨dx, n, o, m, st, h1, h2, h3, h4, h5⟩ := h
  exact ⟨dx, _, o, h1, rfl, h3⟩
theorem RuleAt.marked (h : RuleAt C H x rs) : ∃ dx fs n, H x = some (.ins C dx fs) ∧ fs.lookup ("marked" : Str) = some (V.ref n) ∧ H n = some (.dK (rs.map fun r => (.inr (S r.nm), .bl r.oft))) := by
  obtain ⟨dx, n, o, m, st, h1, h2, h3, h4, h5⟩ := h
  exact ⟨dx, _, m, h1, rfl, h4⟩
theorem RuleAt.text (h : RuleAt C H x rs) : ∃ dx fs, H x = some (.ins C dx fs) ∧ fs.lookup ("text" : Str) = some (V.str (textF rs)) := by
  obtain ⟨dx, n, o, m, st, h1, h2, h3, h4, h5⟩ := h
  exact ⟨dx, _, h1, rfl⟩
theorem mark_get {p : Addr} {s : List Nat} (u : Uniq rs) (h : H p = some (.dK (rs.map fun r => (.inr (S r.nm), .bl r.oft)))) (hs : s ∈ rs.map (·.nm)) : DGet H p (.str (S s)) (some (.bl (oftF rs s))) := by
  have e : valV (rs.map fun r => ((.inr (S r.nm) : Key), V.bl r.oft)) (.inr (S s)) = some (.bl (oftF rs s)) := by
    obtain ⟨r, hr, rfl⟩ := List.mem_map.mp hs
    rw [oft_of u hr]
    clear h
    induction rs with
    | nil => cases hr
    | cons r0 rs ih =>
      rw [List.map_cons, valV_cons]
      have u2 : (r0.nm :: rs.map (·.nm)).Nodup := u
      rcases List.mem_cons.mp hr with rfl | h2
      · rw [if_pos rfl]
      · rw [if_neg, ih (List.nodup_cons.mp u2).2 h2 (List.mem_map.mpr ⟨r, h2, rfl⟩)]
        intro z
        have h3 := congrArg (fun z : Str => z.cps.toList) (Sum.inr.inj z)
        have h4 : r0.nm = r.nm := by simpa [S] using h3
        exact (List.nodup_cons.mp u2).1 (h4 ▸ List.mem_map.mpr ⟨r, h2, rfl⟩)
  rw [← e]
  exact DGet.k (k := .inr (S s)) h
end
/-- the states behind each letter -/
def alongF (rs : List Row3) (s : List Nat) (w : List Nat) : List (List Nat) := (List.range w.length).map fun i => runF rs s (w.take (i + 1))
theorem along_len {rs : List Row3} {s w : List Nat} : (alongF rs s w).length = w.length := by unfold alongF; simp
theorem along_snoc {rs : List Row3} {s w : List Nat} {c : Nat} : alongF rs s (w ++ [c]) = alongF rs s w ++ [runF rs s (w ++ [c])] := by
  unfold alongF
  rw [List.length_append, List.length_singleton, List.range_succ, List.map_append]
  congr 1
  · refine List.map_congr_left fun i hi => ?_
    have := List.mem_range.mp hi
    rw [List.take_append_of_le_length (by omega)]
  · rw [List.map_singleton, List.take_of_length_le (by simp)]
theorem pe_fldK {X : Cx} {K : PySem.W.Frag} {e : Expr} {f : Str} {pos : Pos} {ta : TE} (hK : X.K = K) (he : PE X e ta) (hb : attributeBase e f X.env (eval e X.env) = eval e X.env) : PE X (.Attribute e f pos) (tFld K ta f) := hK ▸ pe_fld he hb
theorem r_din {ty td : TE} {σ : L2.St} {H : Hp} {Q : VK} (h : ty σ H fun y H1 => td σ H1 fun x H2 => ∃ a o, x = .ref a ∧ DGet H2 a y o ∧ Q (.bl o.isSome) H2) : tDIn ty td σ H Q := h
theorem r_dnotin {ty td : TE} {σ : L2.St} {H : Hp} {Q : VK} (h : ty σ H fun y H1 => td σ H1 fun x H2 => ∃ a o, x = .ref a ∧ DGet H2 a y o ∧ Q (.bl (!o.isSome)) H2) : tDNotIn ty td σ H Q := h
theorem r_while {c : TT} {tb : TS} {D : Ends} {σ : L2.St} {H : Hp} (h : ∃ W : Nat → L2.St → Hp → Prop, (∃ m, W m σ H) ∧ ∀ m σ H, W m σ H →
  c σ H fun b H1 => if b = true then ∃ N : L2.St → Hp → Prop, (∀ σ' H', N σ' H' → ∃ m', m' < m ∧ W m' σ' H') ∧ tb { D with nx := N, ct := N, bk := D.nx } σ H1 else D.nx σ H1) : tWhile c tb D σ H := h
theorem valV_mem {κ : Type} [DecidableEq κ] {kvs : List (κ × V)} {k : κ} {v : V} (nd : (kvs.map (·.1)).Nodup) (h : (k, v) ∈ kvs) : valV kvs k = some v := by
  induction kvs with
  | nil => cases h
  | cons p r ih =>
    obtain ⟨q, x⟩ := p
    rw [valV_cons]
    rw [List.map_cons, List.nodup_cons] at nd
    rcases List.mem_cons.mp h with e | h2
    · cases e
      rw [if_pos rfl]
    · rw [if_neg, ih nd.2 h2]
      rintro rfl
      exact nd.1 (List.mem_map.mpr ⟨(q, v), h2, rfl⟩)
theorem valV_not {κ : Type} [DecidableEq κ] {kvs : List (κ × V)} {k : κ} (h : k ∉ kvs.map (·.1)) : valV kvs k = none := by
  induction kvs with
  | nil => rfl
  | cons p r ih =>
    obtain ⟨q, x⟩ := p
    rw [List.map_cons, List.mem_cons] at h
    rw [valV_cons, if_neg (fun z => h (.inl z.symm)), ih fun z => h (.inr z)]
theorem keyS_inj {a b : List Nat} (h : (Sum.inr (S a) : Key) = .inr (S b)) : a = b := by
  have h2 := congrArg (fun z : Str => z.cps.toList) (Sum.inr.inj h)
  simpa [S] using h2
section
variable {rs : List Row3} {h r : List Nat}
def lapsF (rs : List Row3) (h r : List Nat) (k : Nat) : List (List Nat) := (List.range k).map (lapS rs h r)
def turnsK (rs : List Row3) (h r : List Nat) (k : Nat) : List (Key × V) := (List.range k).map fun j => (.inr (S (lapS rs h r j)), .int j)
theorem turns_keys (k : Nat) : (turnsK rs h r k).map (·.1) = (lapsF rs h r k).map fun l => Sum.inr (S l) := by unfold turnsK lapsF; rw [List.map_map, List.map_map]; rfl
theorem turns_nodup {k : Nat} (nd : (lapsF rs h r k).Nodup) : ((turnsK rs h r k).map (·.1)).Nodup := by
  rw [turns_keys]
  exact List.Pairwise.map _ (fun a b h z => h (keyS_inj z)) nd
theorem turns_get {k j : Nat} (nd : (lapsF rs h r k).Nodup) (hj : j < k) : valV (turnsK rs h r k) (.inr (S (lapS rs h r j))) = some (.int j) :=
  valV_mem (turns_nodup nd) (List.mem_map.mpr ⟨j, List.mem_range.mpr hj, rfl⟩)
theorem turns_not {k : Nat} {s : List Nat} (hn : s ∉ lapsF rs h r k) : valV (turnsK rs h r k) (.inr (S s)) = none := valV_not fun z => by
  rw [turns_keys] at z
  obtain ⟨a, ha, e⟩ := List.mem_map.mp z
  exact hn (keyS_inj e ▸ ha)
theorem turns_put {k : Nat} (hn : lapS rs h r k ∉ lapsF rs h r k) : putK (turnsK rs h r k) (.inr (S (lapS rs h r k))) (.int k) = turnsK rs h r (k + 1) := by
  rw [putK_new]
  · unfold turnsK
    rw [List.range_succ, List.map_append]
    rfl
  · rw [turns_keys]
    intro z
    obtain ⟨a, ha, e⟩ := List.mem_map.mp z
    exact hn (keyS_inj e ▸ ha)
theorem laps_snoc (k : Nat) : lapsF rs h r (k + 1) = lapsF rs h r k ++ [lapS rs h r k] := by unfold lapsF; rw [List.range_succ, List.map_append]; rfl
theorem laps_nodup {k : Nat} (nd : (lapsF rs h r k).Nodup) (hn : lapS rs h r k ∉ lapsF rs h r k) : (lapsF rs h r (k + 1)).Nodup := by
  rw [laps_snoc, List.nodup_append]
  refine ⟨nd, by simp, fun a ha b hb e => ?_⟩
  rw [List.mem_singleton] at hb
  subst hb
  exact hn (e ▸ ha)
theorem lapS_mem (hne : rs ≠ []) (hc : Closed rs) (wh : Wd h) (wr : Wd r) : ∀ k, lapS rs h r k ∈ rs.map (·.nm)
  | 0 => by rw [lapS_zero]; exact runF_mem hc wh (first_mem hne)
  | k + 1 => by rw [lapS_succ]; exact runF_mem hc wr (lapS_mem hne hc wh wr k)
theorem laps_le (hne : rs ≠ []) (hc : Closed rs) (wh : Wd h) (wr : Wd r) {k : Nat} (nd : (lapsF rs h r k).Nodup) : k ≤ rs.length := by
  have := nodup_le _ (rs.map (·.nm)) nd fun a ha => by
    obtain ⟨j, _, rfl⟩ := List.mem_map.mp ha
    exact lapS_mem hne hc wh wr j
  unfold lapsF at this
  simpa using this
theorem hits_along (s : List Nat) : ((alongF rs s r).map (oftF rs)).any id = hits rs s r := by
  unfold alongF hits
  rw [Bool.eq_iff_iff, decide_eq_true_eq, List.any_eq_true]
  constructor
  · rintro ⟨b, hb, e⟩
    rw [List.map_map] at hb
    obtain ⟨i, hi, rfl⟩ := List.mem_map.mp hb
    exact ⟨i, List.mem_range.mp hi, e⟩
  · rintro ⟨i, hi, e⟩
    exact ⟨_, by rw [List.map_map]; exact List.mem_map.mpr ⟨i, List.mem_range.mpr hi, rfl⟩, e⟩
theorem along_last {s : List Nat} (r0 : r ≠ []) : ∃ pre, alongF rs s r = pre ++ [runF rs s r] := by
  obtain ⟨v, c, rfl⟩ : ∃ v c, r = v ++ [c] := ⟨r.dropLast, r.getLast r0, (List.dropLast_concat_getLast r0).symm⟩
  exact ⟨_, along_snoc⟩
theorem along_mem (hc : Closed rs) {s : List Nat} (hs : s ∈ rs.map (·.nm)) (wr : Wd r) {a : List Nat} (ha : a ∈ alongF rs s r) : a ∈ rs.map (·.nm) := by
  obtain ⟨i, _, rfl⟩ := List.mem_map.mp ha
  exact runF_mem hc (wr.take _) hs
def marksF (rs : List Row3) (h r : List Nat) (k : Nat) : List Bool := (List.range k).map (lapHit rs h r)
theorem marks_snoc (k : Nat) : marksF rs h r (k + 1) = marksF rs h r k ++ [lapHit rs h r k] := by unfold marksF; rw [List.range_succ, List.map_append]; rfl
theorem marks_len (k : Nat) : (marksF rs h r k).length = k := by unfold marksF; simp
theorem marks_any {t k : Nat} : ((marksF rs h r k).drop t).any id = true ↔ ∃ j, t ≤ j ∧ j < k ∧ lapHit rs h r j = true := by
  rw [List.any_eq_true]
  constructor
  · rintro ⟨b, hb, e⟩
    obtain ⟨i, hi, e2⟩ := List.mem_iff_getElem.mp hb
    rw [List.getElem_drop] at e2
    unfold marksF at e2 hi
    rw [List.length_drop, List.length_map, List.length_range] at hi
    simp only [List.getElem_map, List.getElem_range] at e2
    exact ⟨t + i, by omega, by omega, e2.trans e⟩
  · rintro ⟨j, h1, h2, e⟩
    refine ⟨true, List.mem_iff_getElem.mpr ⟨j - t, by rw [List.length_drop, marks_len]; omega, ?_⟩, rfl⟩
    rw [List.getElem_drop]
    unfold marksF
    simp only [List.getElem_map, List.getElem_range]
    rw [show t + (j - t) = j by omega]
    exact e
end
theorem ints_lay : ∀ ks : List Nat, PyData.canLayAll0 (ks.map fun (k : Nat) => PyData.int k) = true
  | [] => by simp [PyData.canLayAll0]
  | k :: ks => by simp [PyData.canLayAll0, PyData.canLay0, ints_lay ks]
theorem ints_depth : ∀ ks : List Nat, PyData.depthAll (ks.map fun (k : Nat) => PyData.int k) ≤ 1
  | [] => by simp [PyData.depthAll]
  | k :: ks => by have := ints_depth ks; simp [PyData.depthAll, PyData.depth]; try omega
theorem ints_dp {K : PySem.W.Frag} {H : Hp} : ∀ ks : List Nat, DpAll K H (ks.map fun (k : Nat) => V.int k) (ks.map fun (k : Nat) => PyData.int k)
  | [] => .nil
  | k :: ks => .cons (.int _) (ints_dp ks)
theorem r_neE {K : PySem.W.Frag} {H : Hp} {Q : VK} {a b : Addr} {ks : List Nat} (h1 : H a = some (.lst (ks.map fun (k : Nat) => V.int k))) (h2 : H b = some (.lst [])) (q : Q (.bl (!ks.isEmpty)) H) : rNeD K (.ref a) (.ref b) H Q := by
  refine ⟨_, _, .lst (SqL.of h1) (ints_dp ks), .lst (SqL.of h2) .nil, ?_, ?_, ?_⟩
  · unfold SeqAt.shaped
    have := ints_depth ks
    simp [PyData.canLay0, PyData.depth, ints_lay]
    omega
  · unfold SeqAt.shaped
    simp only [PyData.canLay0, PyData.canLayAll0, PyData.depth, PyData.depthAll]
    rfl
  · have e : PyData.eqv (.list (ks.map fun (k : Nat) => PyData.int k)) (.list []) = ks.isEmpty := by
      cases ks with
      | nil => simp [PyData.eqv, PyData.eqvAll]
      | cons _ _ => simp [PyData.eqv, PyData.eqvAll]
    rw [e]
    exact q
/-! ### drawing a loss that is let -/
theorem names_pot {X : Hp} {a lv : Addr} {c : Int} {L : List (List Nat)} (hP : PotAt X a c) (h : X lv = some (.lst (L.map fun l => V.str (S l)))) : lv ≠ a := fun z => by
  subst z
  obtain ⟨ow, sd, n, hA, _⟩ := hP
  rw [hA] at h
  have : [V.int ow, .int sd, .int n] = L.map fun l => V.str (S l) := by injection h with h; injection h
  cases L with
  | nil => cases this
  | cons x xs => cases (List.cons.inj this).1
theorem pot_lst {X : Hp} {a b : Addr} {c : Int} {o : HO} (hP : PotAt X a c) (h : X b = some o) (n : ∀ ys, o ≠ .lst ys) : b ≠ a := fun z => by
  subst z
  obtain ⟨ow, sd, m, hA, _⟩ := hP
  rw [hA] at h
  exact n _ (Option.some.inj h).symm
theorem WaysAt.but {H H1 : Hp} {a p : Addr} {c : Int} {rs : List Row3} (e : But a H H1) (hP : PotAt H a c) (h : WaysAt H p rs) : WaysAt H1 p rs := by
  obtain ⟨kvs, hk, hp⟩ := h
  refine ⟨kvs, e _ _ (pot_lst hP hk fun _ z => by cases z) hk, hp.mono fun r kv h => ?_⟩
  obtain ⟨d, h1, h2⟩ := h
  exact ⟨d, h1, e _ _ (pot_lst hP h2 fun _ z => by cases z) h2⟩
/-- what stands while a loss is drawn -/
structure LdB (o lv p D : Addr) (rs : List Row3) (Lv : List (List Nat)) (B : Hp) : Prop where
  o : OwnH B o rs
  l : B lv = some (.lst (Lv.map fun l => V.str (S l)))
  w : WaysAt B p rs
  d : B D = some (.lst ((oftens rs).map fun l => V.str (S l)))
theorem LdB.at {o lv p D a : Addr} {c : Int} {rs : List Row3} {Lv : List (List Nat)} {B X : Hp} (m : LdB o lv p D rs Lv B) (hP : PotAt B a c) (e : But a B X) : LdB o lv p D rs Lv X :=
  ⟨m.o.but e hP, e _ _ (names_pot hP m.l) m.l, m.w.but e hP, e _ _ (names_pot hP m.d) m.d⟩
theorem LdB.same {o lv p D : Addr} {rs : List Row3} {Lv : List (List Nat)} {B X : Hp} (m : LdB o lv p D rs Lv B) (e : Same B X) : LdB o lv p D rs Lv X :=
  ⟨m.o.same e, e _ _ m.l, m.w.same e, e _ _ m.d⟩
/-- a list of (place, state) -/
def SeenAt (X : Hp) (Sn : Addr) (L : List (Nat × List Nat)) : Prop := ∃ ts : List Addr, X Sn = some (.lst (ts.map V.ref)) ∧ Paired (fun e t => X t = some (.tup [.int (e.1 : Nat), .str (S e.2)])) L ts
theorem SeenAt.same {X Y : Hp} {Sn : Addr} {L : List (Nat × List Nat)} (e : Same X Y) (h : SeenAt X Sn L) : SeenAt Y Sn L := by
  obtain ⟨ts, h1, h2⟩ := h
  exact ⟨ts, e _ _ h1, h2.mono fun _ _ h => e _ _ h⟩
theorem SeenAt.but {X Y : Hp} {a Sn : Addr} {c : Int} {L : List (Nat × List Nat)} (e : But a X Y) (hP : PotAt X a c) (n : Sn ≠ a) (h : SeenAt X Sn L) : SeenAt Y Sn L := by
  obtain ⟨ts, h1, h2⟩ := h
  exact ⟨ts, e _ _ n h1, h2.mono fun _ t h => e _ _ (pot_lst hP h fun _ z => by cases z) h⟩
theorem SeenAt.add {X : Hp} {Sn t : Addr} {L : List (Nat × List Nat)} {k : Nat} {s : List Nat} {ts : List Addr} (h1 : X Sn = some (.lst (ts.map V.ref))) (h2 : Paired (fun e t => X t = some (.tup [.int (e.1 : Nat), .str (S e.2)])) L ts) (ht : X t = some (.tup [.int (k : Nat), .str (S s)])) :
    SeenAt (upd X Sn (.lst (ts.map V.ref ++ [.ref t]))) Sn (L ++ [(k, s)]) := by
  have keep : ∀ b ys, X b = some (.tup ys) → (upd X Sn (.lst (ts.map V.ref ++ [.ref t]))) b = some (.tup ys) := fun b ys h => (upd_ne fun z => by subst z; rw [h1] at h; cases h).trans h
  exact ⟨ts ++ [t], by rw [upd_same, List.map_append]; rfl, (h2.mono fun _ _ h => keep _ _ h).snoc (keep _ _ ht)⟩
theorem RuleAt.but {C : Addr} {H H1 : Hp} {a x : Addr} {c : Int} {rs : List Row3} (e : But a H H1) (hP : PotAt H a c) (h : RuleAt C H x rs) : RuleAt C H1 x rs := by
  obtain ⟨dx, n, o, m, st, h1, h2, h3, h4, h5⟩ := h
  exact ⟨dx, n, o, m, st, e _ _ (pot_lst hP h1 fun _ z => by cases z) h1, e _ _ (pot_lst hP h2 fun _ z => by cases z) h2, e _ _ (pot_lst hP h3 fun _ z => by cases z) h3, e _ _ (pot_lst hP h4 fun _ z => by cases z) h4, h5.but e hP⟩
/-- a drawn loss -/
def LossH (X : Hp) (t : Addr) : Prop := ∃ h r, X t = some (.tup [.str (S h), .str (S r)]) ∧ Wd h ∧ Wd r ∧ r ≠ [] ∧ h.length ≤ 12 ∧ r.length ≤ 12
theorem LossH.same {X Y : Hp} {t : Addr} (e : Same X Y) (h : LossH X t) : LossH Y t := by
  obtain ⟨h, r, h1, h2⟩ := h
  exact ⟨h, r, e _ _ h1, h2⟩
theorem LossH.but {X Y : Hp} {a t : Addr} {c : Int} (e : But a X Y) (hP : PotAt X a c) (h : LossH X t) : LossH Y t := by
  obtain ⟨h, r, h1, h2⟩ := h
  exact ⟨h, r, e _ _ (pot_lst hP h1 fun _ z => by cases z) h1, h2⟩
theorem LossH.lst {X : Hp} {t D : Addr} {xs ys : List V} (hD : X D = some (.lst xs)) (h : LossH X t) : LossH (upd X D (.lst ys)) t := by
  obtain ⟨h, r, h1, h2⟩ := h
  exact ⟨h, r, (upd_ne fun z => by subst z; rw [hD] at h1; cases h1).trans h1, h2⟩
def LossesH (X : Hp) (p : Addr) (n : Nat) : Prop := ∃ ts : List Addr, X p = some (.lst (ts.map V.ref)) ∧ ts.length ≤ n ∧ ∀ t ∈ ts, LossH X t
theorem r_make {C : Addr} {sp : Sp} {dvs : List V} {E : XK} {t : TA} {σ : L2.St} {H : Hp} {Q : VK} (h : t σ H fun vs H1 => ∀ x dx, H1 x = none → H1 dx = none → dx ≠ x →
  sp (.ref x :: (vs ++ dvs)) (upd (upd H1 dx (.own x)) x (.ins C dx [])) (fun v H2 => v = .non ∧ Q (.ref x) H2) E) : tMake C sp dvs E t σ H Q := h
theorem made_same {H H' : Hp} {x dx : Addr} {u v : HO} (hx : H x = none) (hd : H dx = none) (e : But x (upd (upd H dx u) x v) H') : Same H H' := fun b o h => by
  have n1 : b ≠ x := fun z => by subst z; rw [hx] at h; cases h
  have n2 : b ≠ dx := fun z => by subst z; rw [hd] at h; cases h
  exact e b o n1 ((upd_ne n1).trans ((upd_ne n2).trans h))
theorem Told.good {h r h' r' : List Nat} (t : Told h r h' r') (wh : Wd h) (wr : Wd r) (r0 : r ≠ []) (lh : h.length ≤ 12) (lr : r.length ≤ 12) : Wd h' ∧ Wd r' ∧ r' ≠ [] ∧ h'.length ≤ 200 ∧ r'.length ≤ 200 := by
  cases t with
  | lap => exact ⟨wh.app wr, wr, r0, by rw [List.length_append]; omega, by omega⟩
  | more n h2 h3 =>
    refine ⟨wh, repW_wd wr, fun z => ?_, by omega, ?_⟩
    · have := congrArg List.length z
      rw [repW_len, List.length_nil] at this
      have l0 : 0 < r.length := List.length_pos_iff.mpr r0
      have := Nat.mul_pos (show 0 < n by omega) l0
      omega
    · rw [repW_len]
      have := Nat.mul_le_mul h3 lr
      omega
  | turn x v e =>
    subst e
    rw [List.length_cons] at lr
    have wx : x = 110 ∨ x = 102 ∨ x = 115 := wr x (List.mem_cons_self ..)
    have w1 : Wd [x] := fun z hz => by rw [List.mem_singleton.mp hz]; exact wx
    exact ⟨wh.app w1, (Wd.app (fun z hz => wr z (List.mem_cons_of_mem _ hz)) w1), by simp, by simp; omega, by simp; omega⟩
/-! ### ways by their words -/
theorem Rch.done {rs : List Row3} {s0 : List Nat} {i : Nat} {F : List (List Nat)} (h : Rch rs s0 i F []) (s : List Nat) : s ∈ F ↔ Goes1 rs s0 s := by
  refine ⟨h.r s, ?_⟩
  rintro ⟨wd, ww, w0, rfl⟩
  have cl : ∀ s ∈ F, ∀ c, (c = 110 ∨ c = 102 ∨ c = 115) → toF rs s c ∈ F := fun s hs => (h.e s hs).resolve_left (fun z => nomatch z)
  have st := h.st.resolve_left (fun z => nomatch z)
  have go : ∀ (v : List Nat) (s : List Nat), Wd v → s ∈ F → runF rs s v ∈ F := by
    intro v
    induction v with
    | nil => exact fun s _ hs => hs
    | cons x v ih => exact fun s hv hs => ih _ (fun c hc => hv c (List.mem_cons_of_mem _ hc)) (cl s hs x (hv x (List.mem_cons_self ..)))
  cases wd with
  | nil => exact absurd rfl w0
  | cons x v => exact go v _ (fun c hc => ww c (List.mem_cons_of_mem _ hc)) (st x (ww x (List.mem_cons_self ..)))
abbrev NW := List Nat × List Nat
def wordsK (G : List NW) : List (Key × V) := G.map fun q => (.inr (S q.1), .str (S q.2))
def EdgeAt (X : Hp) (e : Addr) (E : List NW) : Prop := ∃ ts : List Addr, X e = some (.lst (ts.map V.ref)) ∧ Paired (fun q t => X t = some (.tup [.str (S q.1), .str (S q.2)])) E ts
theorem EdgeAt.same {X Y : Hp} {e : Addr} {E : List NW} (h : Same X Y) (m : EdgeAt X e E) : EdgeAt Y e E := by
  obtain ⟨ts, h1, h2⟩ := m
  exact ⟨ts, h _ _ h1, h2.mono fun _ _ k => h _ _ k⟩
theorem EdgeAt.put {X : Hp} {e p : Addr} {E : List NW} {ks : List (Key × V)} {o : HO} (hp : X p = some (.dK ks)) (m : EdgeAt X e E) : EdgeAt (upd X p o) e E := by
  obtain ⟨ts, h1, h2⟩ := m
  exact ⟨ts, (upd_ne fun z => by subst z; rw [hp] at h1; cases h1).trans h1, h2.mono fun _ t k => (upd_ne fun z => by subst z; rw [hp] at k; cases k).trans k⟩
theorem EdgeAt.lst {X : Hp} {e p : Addr} {E : List NW} {ks ys : List V} (n : e ≠ p) (hp : X p = some (.lst ks)) (m : EdgeAt X e E) : EdgeAt (upd X p (.lst ys)) e E := by
  obtain ⟨ts, h1, h2⟩ := m
  exact ⟨ts, (upd_ne n).trans h1, h2.mono fun _ t k => (upd_ne fun z => by subst z; rw [hp] at k; cases k).trans k⟩
theorem EdgeAt.add {X : Hp} {e t : Addr} {E : List NW} {q : NW} {ts : List Addr} (h1 : X e = some (.lst (ts.map V.ref))) (h2 : Paired (fun q t => X t = some (.tup [.str (S q.1), .str (S q.2)])) E ts) (ht : X t = some (.tup [.str (S q.1), .str (S q.2)])) :
    EdgeAt (upd X e (.lst (ts.map V.ref ++ [.ref t]))) e (E ++ [q]) := by
  have keep : ∀ b ys, X b = some (.tup ys) → (upd X e (.lst (ts.map V.ref ++ [.ref t]))) b = some (.tup ys) := fun b ys h => (upd_ne fun z => by subst z; rw [h1] at h; cases h).trans h
  exact ⟨ts ++ [t], by rw [upd_same, List.map_append]; rfl, (h2.mono fun _ _ h => keep _ _ h).snoc (keep _ _ ht)⟩
/-- the words found, by their states -/
structure GoodW (rs : List Row3) (s0 : List Nat) (i : Nat) (G : List NW) : Prop where
  w : ∀ p ∈ G, Wd p.2 ∧ p.2 ≠ [] ∧ runF rs s0 p.2 = p.1 ∧ p.2.length ≤ i
theorem words_keys (G : List NW) : (wordsK G).map (·.1) = (G.map (·.1)).map fun l => Sum.inr (S l) := by unfold wordsK; rw [List.map_map, List.map_map]; rfl
theorem words_nodup {G : List NW} (nd : (G.map (·.1)).Nodup) : ((wordsK G).map (·.1)).Nodup := by
  rw [words_keys]
  exact List.Pairwise.map _ (fun a b h z => h (keyS_inj z)) nd
theorem words_not {G : List NW} {s : List Nat} (hn : s ∉ G.map (·.1)) : valV (wordsK G) (.inr (S s)) = none := valV_not fun z => by
  rw [words_keys] at z
  obtain ⟨a, ha, e⟩ := List.mem_map.mp z
  exact hn (keyS_inj e ▸ ha)
theorem words_get {G : List NW} (nd : (G.map (·.1)).Nodup) {q : NW} (h : q ∈ G) : valV (wordsK G) (.inr (S q.1)) = some (.str (S q.2)) :=
  valV_mem (words_nodup nd) (List.mem_map.mpr ⟨q, h, rfl⟩)
theorem words_put {G : List NW} {s w : List Nat} (hn : s ∉ G.map (·.1)) : putK (wordsK G) (.inr (S s)) (.str (S w)) = wordsK (G ++ [(s, w)]) := by
  rw [putK_new]
  · unfold wordsK
    rw [List.map_append]
    rfl
  · rw [words_keys]
    intro z
    obtain ⟨a, ha, e⟩ := List.mem_map.mp z
    exact hn (keyS_inj e ▸ ha)
theorem words_some {G : List NW} (nd : (G.map (·.1)).Nodup) (s : List Nat) : (valV (wordsK G) (.inr (S s))).isSome = decide (s ∈ G.map (·.1)) := by
  by_cases h : s ∈ G.map (·.1)
  · obtain ⟨q, hq, rfl⟩ := List.mem_map.mp h
    rw [words_get nd hq, decide_eq_true h]
    rfl
  · rw [words_not h, decide_eq_false h]
    rfl
theorem GoodW.mono {rs : List Row3} {s0 : List Nat} {i j : Nat} {G : List NW} (h : GoodW rs s0 i G) (l : i ≤ j) : GoodW rs s0 j G := ⟨fun p hp => by obtain ⟨a, b, c, d⟩ := h.w p hp; exact ⟨a, b, c, by omega⟩⟩
theorem GoodW.add {rs : List Row3} {s0 : List Nat} {i : Nat} {G : List NW} {q : NW} {c : Nat} (h : GoodW rs s0 (i + 1) G) (hq : Wd q.2) (er : runF rs s0 q.2 = q.1) (hl : q.2.length ≤ i) (hc : c = 110 ∨ c = 102 ∨ c = 115) : GoodW rs s0 (i + 1) (G ++ [(toF rs q.1 c, q.2 ++ [c])]) := ⟨fun p hp => by
  rcases List.mem_append.mp hp with k | k
  · exact h.w p k
  · rw [List.mem_singleton.mp k]
    exact ⟨hq.app (fun x hx => by rw [List.mem_singleton.mp hx]; exact hc), by simp, by show runF rs s0 (q.2 ++ [c]) = _; rw [runF_snoc, er], by show (q.2 ++ [c]).length ≤ i + 1; simp; exact hl⟩⟩
/-- all but two objects -/
def But2 (a b : Addr) (H H' : Hp) : Prop := ∀ c o, c ≠ a → c ≠ b → H c = some o → H' c = some o
theorem But2.refl {a b : Addr} {H : Hp} : But2 a b H H := fun _ _ _ _ h => h
theorem But2.same {a b : Addr} {H X Y : Hp} (e : But2 a b H X) (f : Same X Y) : But2 a b H Y := fun c o h1 h2 h => f _ _ (e c o h1 h2 h)
theorem But2.pa {a b : Addr} {H X : Hp} {o : HO} (e : But2 a b H X) : But2 a b H (upd X a o) := fun c u h1 h2 h => (upd_ne h1).trans (e c u h1 h2 h)
theorem But2.pb {a b : Addr} {H X : Hp} {o : HO} (e : But2 a b H X) : But2 a b H (upd X b o) := fun c u h1 h2 h => (upd_ne h2).trans (e c u h1 h2 h)
theorem But2.base {a b : Addr} {H B X : Hp} (s : Same H B) (e : But2 a b B X) (ha : H a = none) (hb : H b = none) : Same H X := fun c o h =>
  e c o (fun z => by subst z; rw [ha] at h; cases h) (fun z => by subst z; rw [hb] at h; cases h) (s c o h)
def setW (G : List NW) (s : List Nat) : List NW := if s ∈ G.map (·.1) then G.map (fun q => if q.1 = s then (q.1, []) else q) else G ++ [(s, [])]
theorem setW_put (G : List NW) (s : List Nat) : putK (wordsK G) (.inr (S s)) (.str (S [])) = wordsK (setW G s) := by
  unfold setW
  by_cases h : s ∈ G.map (·.1)
  · rw [if_pos h]
    unfold putK
    rw [if_pos]
    · unfold wordsK
      rw [List.map_map, List.map_map]
      refine List.map_congr_left fun q _ => ?_
      show (if (Sum.inr (S q.1) : Key) = .inr (S s) then _ else _) = _
      by_cases e : q.1 = s
      · rw [if_pos (by rw [e])]
        show _ = ((Sum.inr (S (if q.1 = s then (q.1, ([] : List Nat)) else q).1) : Key), V.str (S (if q.1 = s then (q.1, ([] : List Nat)) else q).2))
        rw [if_pos e]
      · rw [if_neg fun z => e (keyS_inj z)]
        show _ = ((Sum.inr (S (if q.1 = s then (q.1, ([] : List Nat)) else q).1) : Key), V.str (S (if q.1 = s then (q.1, ([] : List Nat)) else q).2))
        rw [if_neg e]
    · obtain ⟨q, hq, e⟩ := List.mem_map.mp h
      exact List.any_eq_true.mpr ⟨(.inr (S q.1), .str (S q.2)), List.mem_map.mpr ⟨q, hq, rfl⟩, decide_eq_true (by rw [← e])⟩
  · rw [if_neg h, words_put h]
theorem setW_keys (G : List NW) (s : List Nat) : (setW G s).map (·.1) = if s ∈ G.map (·.1) then G.map (·.1) else G.map (·.1) ++ [s] := by
  unfold setW
  by_cases h : s ∈ G.map (·.1)
  · rw [if_pos h, if_pos h, List.map_map]
    refine List.map_congr_left fun q _ => ?_
    show (if q.1 = s then (q.1, ([] : List Nat)) else q).1 = q.1
    split <;> rfl
  · rw [if_neg h, if_neg h, List.map_append]
    rfl
theorem setW_nodup {G : List NW} (nd : (G.map (·.1)).Nodup) (s : List Nat) : ((setW G s).map (·.1)).Nodup := by
  rw [setW_keys]
  by_cases h : s ∈ G.map (·.1)
  · rw [if_pos h]; exact nd
  · rw [if_neg h, List.nodup_append]
    exact ⟨nd, by simp, fun x h1 y h2 => by rw [List.mem_singleton.mp h2]; rintro rfl; exact h h1⟩
theorem setW_mem (G : List NW) (s n : List Nat) : n ∈ (setW G s).map (·.1) ↔ n = s ∨ n ∈ G.map (·.1) := by
  rw [setW_keys]
  by_cases h : s ∈ G.map (·.1)
  · rw [if_pos h]
    exact ⟨.inr, fun z => z.elim (fun e => e ▸ h) id⟩
  · rw [if_neg h, List.mem_append, List.mem_singleton]
    exact Or.comm
structure HeadW (rs : List Row3) (s0 : List Nat) (i : Nat) (G : List NW) : Prop where
  w : ∀ p ∈ G, Wd p.2 ∧ runF rs s0 p.2 = p.1 ∧ p.2.length ≤ i
theorem GoodW.head {rs : List Row3} {s0 : List Nat} {i : Nat} {G : List NW} (h : GoodW rs s0 i G) : HeadW rs s0 i (setW G s0) := ⟨fun p hp => by
  unfold setW at hp
  by_cases k : s0 ∈ G.map (·.1)
  · rw [if_pos k] at hp
    obtain ⟨q, hq, rfl⟩ := List.mem_map.mp hp
    by_cases e : q.1 = s0
    · rw [if_pos e]
      exact ⟨(fun _ h => nomatch h), e.symm, Nat.zero_le _⟩
    · rw [if_neg e]
      obtain ⟨a, _, b, c⟩ := h.w q hq
      exact ⟨a, b, c⟩
  · rw [if_neg k] at hp
    rcases List.mem_append.mp hp with hp | hp
    · obtain ⟨a, _, b, c⟩ := h.w p hp
      exact ⟨a, b, c⟩
    · rw [List.mem_singleton.mp hp]
      exact ⟨(fun _ h => nomatch h), rfl, Nat.zero_le _⟩⟩
/-- what a search for a let loss tells -/
def FoundL (rs : List Row3) (s0 : List Nat) (H : Hp) (v : V) : Prop :=
  (v = .non ∧ ¬ Lives rs s0) ∨ ∃ t h r n, v = .ref t ∧ H t = some (.tup [.str (S h), .str (S r)]) ∧ Wd h ∧ Wd r ∧ r ≠ [] ∧ h.length ≤ 65 ∧ r.length ≤ 65 ∧ runF rs s0 h = n ∧ oftF rs n = true ∧ runF rs n r = n
theorem r_lock {t : TS} {D : Ends} {σ : L2.St} {H : Hp} (h : ∃ d u, H d = some u ∧ Mut (some u) ∧ ∀ od, t ⟨fun σ' H' => H' d = some (.frz od u) ∧ D.nx σ' (upd H' d u), fun v H' => H' d = some (.frz od u) ∧ D.rt v (upd H' d u), fun σ' H' => H' d = some (.frz od u) ∧ D.bk σ' (upd H' d u), fun σ' H' => H' d = some (.frz od u) ∧ D.ct σ' (upd H' d u)⟩ σ (upd H d (.frz od u))) : tLock t D σ H := h
theorem r_dget1 {td ty : TE} {σ : L2.St} {H : Hp} {Q : VK} (h : td σ H fun x H1 => ∃ a, x = .ref a ∧ IsD H1 a ∧ ty σ H1 fun y H2 => ∃ o, DGet H2 a y o ∧ Q (o.getD .non) H2) : tDGet1 td ty σ H Q := h
theorem r_keys {td : TE} {σ : L2.St} {H : Hp} {R : It → Hp → Prop} (h : td σ H fun x H1 => ∃ d o, x = .ref d ∧ ((∃ kvs, H1 d = some (.frz o (.dK kvs)) ∧ R (Itk d o kvs) H1) ∨ ∃ kvs, H1 d = some (.frz o (.dT kvs)) ∧ R (Itkt d o kvs) H1)) : iKeys td σ H R := h
theorem wdD_W {lo : Nat} {l : List Nat} (hw : Wd l) (h1 : lo ≤ l.length) (hl : l.length ≤ 200) : wdD lo 200 (.str (S l)) = true := by
  rw [wdD_S, decide_eq_true h1, decide_eq_true hl, Bool.true_and, Bool.true_and, List.all_eq_true]
  intro c hc
  rcases hw c hc with rfl | rfl | rfl <;> decide
theorem lossD_W {h r : List Nat} (wh : Wd h) (wr : Wd r) (lh : h.length ≤ 200) (lr : r.length ≤ 200) (r0 : 0 < r.length) : lossD (.tuple [.str (S h), .str (S r)]) = true := by
  show (wdD 0 200 (.str (S h)) && wdD 1 200 (.str (S r))) = true
  rw [wdD_W wh (Nat.zero_le _) lh, wdD_W wr r0 lr]
  rfl
/-- a value is a right loss of a law: b -/
def RightV (rs : List Row3) (d : PyData) (b : Bool) : Prop := (d = .none → (b = true ↔ ¬ Lives rs (firstOf rs))) ∧ (d ≠ .none → lossD d = false → b = false) ∧ ∀ h r, d = .tuple [.str (S h), .str (S r)] → lossD d = true → b = letsF rs h r
theorem RightV.eq {rs : List Row3} {d : PyData} {b c : Bool} (h : RightV rs d b) (k : RightV rs d c) : b = c := by
  by_cases hn : d = .none
  · rw [Bool.eq_iff_iff, h.1 hn, k.1 hn]
  · cases hl : lossD d with
    | false => rw [h.2.1 hn hl, k.2.1 hn hl]
    | true =>
      obtain ⟨d1, d2, rfl⟩ : ∃ d1 d2, d = .tuple [d1, d2] := by
        unfold lossD at hl
        split at hl
        · exact ⟨_, _, rfl⟩
        · cases hl
      unfold lossD at hl
      obtain ⟨w1, w2⟩ := Bool.and_eq_true_iff.mp hl
      have st : ∀ {lo hi : Nat} {d : PyData}, wdD lo hi d = true → ∃ l, d = .str (S l) := fun {lo hi d} h => by
        cases d with
        | str z => exact ⟨z.cps.toList, by rw [← S_of]⟩
        | _ => cases h
      obtain ⟨l1, rfl⟩ := st w1
      obtain ⟨l2, rfl⟩ := st w2
      have hl2 : lossD (.tuple [.str (S l1), .str (S l2)]) = true := by unfold lossD; exact hl
      rw [h.2.2 _ _ rfl hl2, k.2.2 _ _ rfl hl2]
theorem dat_none {K : PySem.W.Frag} {z0 : Addr} {H : Hp} {d : PyData} (h : Dat K z0 H d .non) : d = .none := by
  cases d with
  | none => rfl
  | bool b => unfold Dat at h; cases h
  | int i => unfold Dat at h; obtain ⟨h, _⟩ := h; cases h
  | str z => unfold Dat at h; obtain ⟨h, _⟩ := h; cases h
  | list ds => unfold Dat at h; obtain ⟨_, _, h, _⟩ := h; cases h
  | tuple ds => unfold Dat at h; obtain ⟨_, _, h, _⟩ := h; cases h
  | dict ds => unfold Dat at h; obtain ⟨_, _, h, _⟩ := h; cases h
theorem dat_none' {K : PySem.W.Frag} {z0 : Addr} {H : Hp} {x : V} (h : Dat K z0 H .none x) : x = .non := by unfold Dat at h; exact h
def spF (k : Int) : Nat → List Row3 → List Row3
  | _, [] => []
  | i, r :: rs => ⟨r.nm, decide (V.int (i : Nat) = V.int k), r.way⟩ :: spF k (i + 1) rs
theorem spF_get (k : Int) : ∀ (j : Nat) (rs : List Row3) (i : Nat), (spF k j rs)[i]? = rs[i]?.map fun r => ⟨r.nm, decide (V.int ((j + i : Nat) : Int) = V.int k), r.way⟩
  | _, [], i => by simp [spF]
  | j, r :: rs, 0 => by simp [spF]
  | j, r :: rs, i + 1 => by
    show (spF k (j + 1) rs)[i]? = _
    rw [spF_get k (j + 1) rs i, List.getElem?_cons_succ, show j + 1 + i = j + (i + 1) by omega]
theorem spF_nms (k : Int) : ∀ (j : Nat) (rs : List Row3), (spF k j rs).map (·.nm) = rs.map (·.nm)
  | _, [] => rfl
  | j, r :: rs => by
    show r.nm :: (spF k (j + 1) rs).map (·.nm) = _
    rw [spF_nms k (j + 1) rs]
    rfl
theorem spF_way (k : Int) : ∀ (j : Nat) (rs : List Row3) (r : Row3), r ∈ spF k j rs → ∃ r' ∈ rs, r.way = r'.way
  | _, [], r, h => nomatch h
  | j, r0 :: rs, r, h => by
    rcases List.mem_cons.mp h with rfl | h
    · exact ⟨r0, List.mem_cons_self .., rfl⟩
    · obtain ⟨r', h1, h2⟩ := spF_way k (j + 1) rs r h
      exact ⟨r', List.mem_cons_of_mem _ h1, h2⟩
theorem spF_len (k : Int) (j : Nat) (rs : List Row3) : (spF k j rs).length = rs.length := by
  have := congrArg List.length (spF_nms k j rs)
  rwa [List.length_map, List.length_map] at this
theorem Law3.sparse {rs : List Row3} (h : Law3 rs) (k : Int) : Law3 (spF k 0 rs) := by
  refine ⟨fun z => ?_, by rw [spF_len]; exact h.len, by rw [spF_nms, spF_len]; exact h.nms, fun r hr c hc => ?_⟩
  · have := spF_len k 0 rs
    rw [z] at this
    exact h.ne (List.length_eq_zero_iff.mp this.symm)
  · obtain ⟨r', h1, h2⟩ := spF_way k 0 rs r hr
    rw [spF_nms, h2]
    exact h.cl r' h1 c hc
theorem found_dat {K : PySem.W.Frag} {a : Addr} {rs : List Row3} {X : Hp} {v : V} (hf : FoundL rs (firstOf rs) X v) : ∃ d, Dat K a X d v ∧ bt d = true ∧ cap d ≤ 2000 ∧ d.depth ≤ 1 ∧ True := by
  rcases hf with ⟨rfl, _⟩ | ⟨t, h, r, n, rfl, ht, wh, wr, r0, lh, lr, _⟩
  · exact ⟨.none, dat_non, rfl, by decide, by simp [PyData.depth], trivial⟩
  · have c1 : ∀ c ∈ h, c < 128 ∧ c ≠ 10 := fun c hc => by rcases wh c hc with rfl | rfl | rfl <;> decide
    have c2 : ∀ c ∈ r, c < 128 ∧ c ≠ 10 := fun c hc => by rcases wr c hc with rfl | rfl | rfl <;> decide
    refine ⟨.tuple [.str (S h), .str (S r)], dat_tup (SqT.of ht) (datL_cons (dat_W fun c hc => (c1 c hc).1) (datL_cons (dat_W fun c hc => (c2 c hc).1) datL_nil)), ?_, ?_, ?_, trivial⟩
    · show (bt (.str (S h)) && (bt (.str (S r)) && true)) = true
      rw [bt_S c1 (by omega), bt_S c2 (by omega)]
      rfl
    · simp only [cap, capL, S_len]; omega
    · simp [PyData.depth, PyData.depthAll]
theorem found_lets {rs : List Row3} {h r n : List Nat} (hw : Law3 rs) (wh : Wd h) (wr : Wd r) (r0 : r ≠ []) (e1 : runF rs (firstOf rs) h = n) (e2 : oftF rs n = true) (e3 : runF rs n r = n) : letsF rs h r = true := by
  have l0 : lapS rs h r 0 = n := by rw [lapS_zero, e1]
  have l1 : lapS rs h r 1 = n := by rw [lapS_succ, l0, e3]
  rw [lets_laps hw.ne hw.cl wh wr r0 (show 0 < 1 by omega) (l0.trans l1.symm)]
  refine ⟨0, Nat.le_refl _, by omega, ?_⟩
  unfold lapHit hits
  rw [l0, decide_eq_true_eq]
  have hp : 0 < r.length := List.length_pos_iff.mpr r0
  refine ⟨r.length - 1, by omega, ?_⟩
  rw [show r.length - 1 + 1 = r.length by omega, List.take_length, e3]
  exact e2
theorem found_right {K : PySem.W.Frag} {a : Addr} {rs : List Row3} {X : Hp} {v : V} {b : Bool} {d : PyData} (hw : Law3 rs) (hf : FoundL rs (firstOf rs) X v) (hd : Dat K a X d v) (hk : ∃ d', Dat K a X d' v ∧ ∀ c, RightV rs d' c → c = true) (huniq : ∀ d', Dat K a X d' v → RightV rs d b → RightV rs d' b) (hb : RightV rs d b) : b = true := by
  obtain ⟨d', h1, h2⟩ := hk
  exact h2 b (huniq d' h1 hb)
/-- what a search tells, as data, and that it is right -/
theorem found_dat2 {K : PySem.W.Frag} {a : Addr} {rs : List Row3} {X : Hp} {v : V} (hw : Law3 rs) (hf : FoundL rs (firstOf rs) X v) : ∃ d, Dat K a X d v ∧ bt d = true ∧ cap d ≤ 2000 ∧ d.depth ≤ 1 ∧ ∀ b, RightV rs d b → b = true := by
  rcases hf with ⟨rfl, hn⟩ | ⟨t, h, r, n, rfl, ht, wh, wr, r0, lh, lr, e1, e2, e3⟩
  · exact ⟨.none, dat_non, rfl, by decide, by simp [PyData.depth], fun b hb => (hb.1 rfl).mpr hn⟩
  · have c1 : ∀ c ∈ h, c < 128 ∧ c ≠ 10 := fun c hc => by rcases wh c hc with rfl | rfl | rfl <;> decide
    have c2 : ∀ c ∈ r, c < 128 ∧ c ≠ 10 := fun c hc => by rcases wr c hc with rfl | rfl | rfl <;> decide
    refine ⟨.tuple [.str (S h), .str (S r)], dat_tup (SqT.of ht) (datL_cons (dat_W fun c hc => (c1 c hc).1) (datL_cons (dat_W fun c hc => (c2 c hc).1) datL_nil)), ?_, ?_, ?_, fun b hb => ?_⟩
    · show (bt (.str (S h)) && (bt (.str (S r)) && true)) = true
      rw [bt_S c1 (by omega), bt_S c2 (by omega)]
      rfl
    · simp only [cap, capL, S_len]; omega
    · simp [PyData.depth, PyData.depthAll]
    · rw [hb.2.2 h r rfl (lossD_W wh wr (by omega) (by omega) (List.length_pos_iff.mpr r0))]
      exact found_lets hw wh wr r0 e1 e2 e3
def NearV (K : PySem.W.Frag) (a : Addr) (X : Hp) (v : V) : Prop := ∃ d, Dat K a X d v ∧ cap d ≤ 100000
theorem NearV.same {K : PySem.W.Frag} {a : Addr} {X Y : Hp} {v : V} (e : Same X Y) (h : NearV K a X v) : NearV K a Y v := by
  obtain ⟨d, h1, h2⟩ := h
  exact ⟨d, dat_same e h1, h2⟩
theorem NearV.but {K : PySem.W.Frag} {a : Addr} {c : Int} {X Y : Hp} {v : V} (e : But a X Y) (P : PotAt X a c) (h : NearV K a X v) : NearV K a Y v := by
  obtain ⟨d, h1, h2⟩ := h
  exact ⟨d, dat_but e P h1, h2⟩
theorem NearV.non {K : PySem.W.Frag} {a : Addr} {X : Hp} : NearV K a X .non := ⟨.none, dat_non, by decide⟩
theorem NearV.loss {K : PySem.W.Frag} {a t : Addr} {X : Hp} {h r : List Nat} (ht : X t = some (.tup [.str (S h), .str (S r)])) (wh : Wd h) (wr : Wd r) (lh : h.length ≤ 100) (lr : r.length ≤ 100) : NearV K a X (.ref t) :=
  ⟨.tuple [.str (S h), .str (S r)], dat_tup (SqT.of ht) (datL_cons (dat_W fun c hc => by rcases wh c hc with rfl | rfl | rfl <;> decide) (datL_cons (dat_W fun c hc => by rcases wr c hc with rfl | rfl | rfl <;> decide) datL_nil)), by simp only [cap, capL, S_len]; omega⟩
theorem lossH_dat {K : PySem.W.Frag} {a t : Addr} {X : Hp} {h r : List Nat} (ht : X t = some (.tup [.str (S h), .str (S r)])) (wh : Wd h) (wr : Wd r) (lh : h.length ≤ 100) (lr : r.length ≤ 100) : ∃ d, Dat K a X d (.ref t) ∧ bt d = true ∧ cap d ≤ 2100 ∧ d.depth ≤ 1 := by
  have c1 : ∀ c ∈ h, c < 128 ∧ c ≠ 10 := fun c hc => by rcases wh c hc with rfl | rfl | rfl <;> decide
  have c2 : ∀ c ∈ r, c < 128 ∧ c ≠ 10 := fun c hc => by rcases wr c hc with rfl | rfl | rfl <;> decide
  refine ⟨.tuple [.str (S h), .str (S r)], dat_tup (SqT.of ht) (datL_cons (dat_W fun c hc => (c1 c hc).1) (datL_cons (dat_W fun c hc => (c2 c hc).1) datL_nil)), ?_, ?_, ?_⟩
  · show (bt (.str (S h)) && (bt (.str (S r)) && true)) = true
    rw [bt_S c1 (by omega), bt_S c2 (by omega)]
    rfl
  · simp only [cap, capL, S_len]; omega
  · simp [PyData.depth, PyData.depthAll]
/-- a value that can be shown -/
def NearS (K : PySem.W.Frag) (a : Addr) (X : Hp) (v : V) : Prop := ∃ d, Dat K a X d v ∧ cap d ≤ 100000 ∧ d.depth ≤ 20 ∧ (d.hasDict = true → noList d = true)
theorem NearS.same {K : PySem.W.Frag} {a : Addr} {X Y : Hp} {v : V} (e : Same X Y) (h : NearS K a X v) : NearS K a Y v := by
  obtain ⟨d, h1, h2⟩ := h
  exact ⟨d, dat_same e h1, h2⟩
theorem NearS.but {K : PySem.W.Frag} {a : Addr} {c : Int} {X Y : Hp} {v : V} (e : But a X Y) (P : PotAt X a c) (h : NearS K a X v) : NearS K a Y v := by
  obtain ⟨d, h1, h2⟩ := h
  exact ⟨d, dat_but e P h1, h2⟩
theorem NearS.txt {K : PySem.W.Frag} {a : Addr} {X : Hp} {l : List Nat} (h : ∀ c ∈ l, c < 128) (hl : l.length ≤ 1000) : NearS K a X (.str (S l)) :=
  ⟨.str (S l), dat_W h, by simp only [cap, S_len]; omega, by simp [PyData.depth], fun z => by simp [PyData.hasDict] at z⟩
theorem NearS.non {K : PySem.W.Frag} {a : Addr} {X : Hp} : NearS K a X .non := ⟨.none, dat_non, by decide, by simp [PyData.depth], fun z => by simp [PyData.hasDict] at z⟩
theorem NearS.bl {K : PySem.W.Frag} {a : Addr} {X : Hp} {b : Bool} : NearS K a X (.bl b) := ⟨.bool b, dat_bl, by simp [cap], by simp [PyData.depth], fun z => by simp [PyData.hasDict] at z⟩
theorem NearS.sml {K : PySem.W.Frag} {a : Addr} {X : Hp} {v : V} {d : PyData} {n m : Nat} (h : Sml K a X n m d v) (hn : n ≤ 20) (hm : m ≤ 100000) : NearS K a X v := ⟨d, h.1, Nat.le_trans h.2.1 hm, Nat.le_trans h.2.2.1 hn, h.2.2.2⟩
theorem Wd.asc {l : List Nat} (h : Wd l) : ∀ c ∈ l, c < 128 := fun c hc => by rcases h c hc with rfl | rfl | rfl <;> decide
theorem NearS.pair {K : PySem.W.Frag} {a t : Addr} {X : Hp} {l m : List Nat} (ht : SqT K X t [.str (S l), .str (S m)]) (h1 : ∀ c ∈ l, c < 128) (h2 : ∀ c ∈ m, c < 128) (l1 : l.length ≤ 1000) (l2 : m.length ≤ 1000) : NearS K a X (.ref t) :=
  ⟨.tuple [.str (S l), .str (S m)], dat_tup ht (datL_cons (dat_W h1) (datL_cons (dat_W h2) datL_nil)), by simp only [cap, capL, S_len]; omega, by simp [PyData.depth, PyData.depthAll], fun z => by simp [PyData.hasDict, PyData.hasDictAll] at z⟩
theorem rep_asc {n c : Nat} (hc : c < 128) : ∀ x ∈ (List.replicate n [c]).flatten, x < 128 := fun x hx => by
  obtain ⟨m, hm, hx⟩ := List.mem_flatten.mp hx
  rw [List.eq_of_mem_replicate hm, List.mem_singleton] at hx
  rw [hx]; exact hc
theorem NearS.pairL {K : PySem.W.Frag} {a t : Addr} {X : Hp} {l m : List Nat} (n : t ≠ a) (ht : SqL K X t [.str (S l), .str (S m)]) (h1 : ∀ c ∈ l, c < 128) (h2 : ∀ c ∈ m, c < 128) (l1 : l.length ≤ 1000) (l2 : m.length ≤ 1000) : NearS K a X (.ref t) :=
  ⟨.list [.str (S l), .str (S m)], dat_lst n ht (datL_cons (dat_W h1) (datL_cons (dat_W h2) datL_nil)), by simp only [cap, capL, S_len]; omega, by simp [PyData.depth, PyData.depthAll], fun z => by simp [PyData.hasDict, PyData.hasDictAll] at z⟩
theorem NearS.oneT {K : PySem.W.Frag} {a t : Addr} {X : Hp} {l : List Nat} (ht : SqT K X t [.str (S l)]) (h1 : ∀ c ∈ l, c < 128) (l1 : l.length ≤ 1000) : NearS K a X (.ref t) :=
  ⟨.tuple [.str (S l)], dat_tup ht (datL_cons (dat_W h1) datL_nil), by simp only [cap, capL, S_len]; omega, by simp [PyData.depth, PyData.depthAll], fun z => by simp [PyData.hasDict, PyData.hasDictAll] at z⟩
theorem NearS.extN {K : PySem.W.Frag} {a : Addr} {X Y : Hp} {v : V} (e : ExtN X Y) (h : NearS K a X v) : NearS K a Y v := by
  obtain ⟨d, h1, h2⟩ := h
  exact ⟨d, dat_extN e h1, h2⟩
theorem lossT_dat {K : PySem.W.Frag} {a t : Addr} {X : Hp} {h r : List Nat} (ht : SqT K X t [.str (S h), .str (S r)]) (wh : Wd h) (wr : Wd r) (lh : h.length ≤ 100) (lr : r.length ≤ 100) : ∃ d, Dat K a X d (.ref t) ∧ bt d = true ∧ cap d ≤ 2100 ∧ d.depth ≤ 1 := by
  have c1 : ∀ c ∈ h, c < 128 ∧ c ≠ 10 := fun c hc => by rcases wh c hc with rfl | rfl | rfl <;> decide
  have c2 : ∀ c ∈ r, c < 128 ∧ c ≠ 10 := fun c hc => by rcases wr c hc with rfl | rfl | rfl <;> decide
  refine ⟨.tuple [.str (S h), .str (S r)], dat_tup ht (datL_cons (dat_W fun c hc => (c1 c hc).1) (datL_cons (dat_W fun c hc => (c2 c hc).1) datL_nil)), ?_, ?_, ?_⟩
  · show (bt (.str (S h)) && (bt (.str (S r)) && true)) = true
    rw [bt_S c1 (by omega), bt_S c2 (by omega)]
    rfl
  · simp only [cap, capL, S_len]; omega
  · simp [PyData.depth, PyData.depthAll]
theorem WRow.extN {H H1 : Hp} {r : Row3} {kv : Key × V} (e : ExtN H H1) (h : WRow H r kv) : WRow H1 r kv := by
  obtain ⟨d, h1, h2⟩ := h
  exact ⟨d, h1, e _ _ h2 fun _ z => nomatch z⟩
theorem WaysAt.extN {H H1 : Hp} {p : Addr} {rs : List Row3} (e : ExtN H H1) (h : WaysAt H p rs) : WaysAt H1 p rs := by
  obtain ⟨kvs, h1, h2⟩ := h
  exact ⟨kvs, e _ _ h1 (fun _ z => nomatch z), h2.mono fun _ _ h => h.extN e⟩
theorem RuleAt.extN {C : Addr} {H H1 : Hp} {x : Addr} {rs : List Row3} (e : ExtN H H1) (h : RuleAt C H x rs) : RuleAt C H1 x rs := by
  obtain ⟨dx, n, o, m, st, h1, h2, h3, h4, h5⟩ := h
  exact ⟨dx, n, o, m, st, e _ _ h1 (fun _ z => nomatch z), e _ _ h2 (fun _ z => nomatch z), e _ _ h3 (fun _ z => nomatch z), e _ _ h4 (fun _ z => nomatch z), h5.extN e⟩
end Tf

set_option Elab.async false
set_option linter.all false
set_option maxRecDepth 100000
set_option maxHeartbeats 2000000
/-! any text as lines of words; which line cannot stand in a law's text -/
namespace Tf
open PySem PySem.Spec PyProof.Rows L2
theorem lines_of (c : Nat) : ∀ l : List Nat, ∃ ls : List (List Nat), ls ≠ [] ∧ (∀ x ∈ ls, c ∉ x) ∧ TL.joinL [c] ls = l
  | [] => ⟨[[]], by simp, by simp, by simp [TL.joinL]⟩
  | x :: r => by
    obtain ⟨ls, h1, h2, h3⟩ := lines_of c r
    cases ls with
    | nil => exact absurd rfl h1
    | cons y ys =>
      by_cases hx : x = c
      · refine ⟨[] :: y :: ys, by simp, fun z hz => ?_, ?_⟩
        · rcases List.mem_cons.mp hz with rfl | hz
          · simp
          · exact h2 z hz
        · rw [← h3, hx]
          simp [TL.joinL]
      · refine ⟨(x :: y) :: ys, by simp, fun z hz => ?_, ?_⟩
        · rcases List.mem_cons.mp hz with rfl | hz
          · simp only [List.mem_cons, not_or]
            exact ⟨fun e => hx e.symm, h2 y (List.mem_cons_self ..)⟩
          · exact h2 z (List.mem_cons_of_mem _ hz)
        · rw [← h3]
          cases ys with
          | nil => simp [TL.joinL]
          | cons z zs => simp [TL.joinL]
/-- the parts of a text between the letters c -/
noncomputable def cutL (c : Nat) (l : List Nat) : List (List Nat) := Classical.choose (lines_of c l)
theorem cutL_ok (c : Nat) (l : List Nat) : cutL c l ≠ [] ∧ (∀ x ∈ cutL c l, c ∉ x) ∧ TL.joinL [c] (cutL c l) = l := Classical.choose_spec (lines_of c l)
theorem split_cut {c : Nat} (hc : c < 256) (l : List Nat) : Txt.split (S l) (S [c]) = (cutL c l).map S := by
  obtain ⟨h1, h2, h3⟩ := cutL_ok c l
  conv => lhs; rw [← h3]
  exact Tf.split_S hc h1 h2
theorem map_S_inj {l m : List (List Nat)} (h : l.map S = m.map S) : l = m := by
  have := congrArg (List.map TL.tl) h
  rwa [map_tl_S, map_tl_S] at this
/-- parts that have no such letter are the parts of their joining -/
theorem cut_join {c : Nat} (hc : c < 256) {ls : List (List Nat)} (hne : ls ≠ []) (h : ∀ l ∈ ls, c ∉ l) : cutL c (TL.joinL [c] ls) = ls :=
  map_S_inj ((split_cut hc _).symm.trans (Tf.split_S hc hne h))
theorem cutL_len (c : Nat) (l : List Nat) : (cutL c l).length ≤ l.length + 1 ∧ ∀ x ∈ cutL c l, x.length ≤ l.length := by
  obtain ⟨h1, h2, h3⟩ := cutL_ok c l
  clear h2
  generalize cutL c l = ls at h1 h3 ⊢
  subst h3
  induction ls with
  | nil => exact absurd rfl h1
  | cons y ys ih =>
    cases ys with
    | nil => simp [TL.joinL]
    | cons z zs =>
      obtain ⟨a, b⟩ := ih (by simp)
      simp only [TL.joinL, List.length_append, List.length_cons, List.length_nil] at a b ⊢
      refine ⟨by omega, fun x hx => ?_⟩
      rcases List.mem_cons.mp hx with rfl | hx
      · omega
      · have := b x hx
        omega
/-! ### what may stand in a line -/
def nmB (l : List Nat) : Bool := decide (1 ≤ l.length) && (decide (l.length ≤ 6) && l.all fun c => decide (97 ≤ c ∧ c ≤ 122))
theorem nmB_iff {l : List Nat} : nmB l = true ↔ Nm l := by
  unfold nmB Nm
  rw [Bool.and_eq_true, Bool.and_eq_true, decide_eq_true_eq, decide_eq_true_eq, List.all_eq_true]
  exact and_congr Iff.rfl (and_congr Iff.rfl ⟨fun h c hc => of_decide_eq_true (h c hc), fun h c hc => decide_eq_true (h c hc)⟩)
def wState : List Nat := [115, 116, 97, 116, 101]
def wOften : List Nat := [111, 102, 116, 101, 110]
def wOn : List Nat := [111, 110]
def wLaw : List Nat := [108, 97, 119]
/-- the words of a state's first line -/
def stB (ws : List (List Nat)) : Bool := decide (2 ≤ ws.length) && (decide (ws.length ≤ 3) && (decide (ws[0]? = some wState) && (nmB (ws.getD 1 []) && (decide (ws.length = 2) || decide (ws[2]? = some wOften)))))
def onB (ws : List (List Nat)) (c : Nat) : Bool := decide (ws.length = 3) && (decide (ws[0]? = some wOn) && (decide (ws[1]? = some [c]) && nmB (ws.getD 2 [])))
theorem stB_row {ws : List (List Nat)} (h : stB ws = true) : ∃ nm oft, ws = stW ⟨nm, oft, fun _ => []⟩ ∧ Nm nm := by
  unfold stB at h
  simp only [Bool.and_eq_true, Bool.or_eq_true, decide_eq_true_eq] at h
  obtain ⟨h1, h2, h3, h4, h5⟩ := h
  match ws, h1, h2 with
  | [a, b], _, _ =>
    obtain rfl : a = wState := Option.some.inj h3
    exact ⟨b, false, rfl, nmB_iff.mp h4⟩
  | [a, b, c], _, _ =>
    obtain rfl : a = wState := Option.some.inj h3
    have h6 : c = wOften := Option.some.inj (h5.resolve_left (by simp))
    subst h6
    exact ⟨b, true, rfl, nmB_iff.mp h4⟩
theorem onB_row {ws : List (List Nat)} {c : Nat} (h : onB ws c = true) : ∃ w, ws = onW c w ∧ Nm w := by
  unfold onB at h
  simp only [Bool.and_eq_true, decide_eq_true_eq] at h
  obtain ⟨h1, h2, h3, h4⟩ := h
  match ws, h1 with
  | [a, b, d], _ =>
    obtain rfl : a = wOn := Option.some.inj h2
    obtain rfl : b = [c] := Option.some.inj h3
    exact ⟨d, rfl, nmB_iff.mp h4⟩
theorem stB_of {r : Row3} (h : Nm r.nm) : stB (stW r) = true := by
  unfold stB
  have h2 : nmB ((stW r).getD 1 []) = true := nmB_iff.mpr h
  rw [h2]
  unfold stW
  cases r.oft <;> rfl
theorem onB_of {c : Nat} {w : List Nat} (h : Nm w) : onB (onW c w) c = true := by
  unfold onB
  have h2 : nmB ((onW c w).getD 2 []) = true := nmB_iff.mpr h
  rw [h2]
  unfold onW wOn
  simp
/-- whether the line at the place n can stand, behind these names -/
noncomputable def lnB (n : Nat) (l : List Nat) (names : List (List Nat)) : Bool :=
  if n = 0 then decide (l = wLaw) else if n % 4 = 1 then stB (cutL 32 l) && (!decide ((cutL 32 l).getD 1 [] ∈ names) && decide (names.length < 64)) else onB (cutL 32 l) (([110, 102, 115] : List Nat).getD ((n - 2) % 4) 0)
/-- the names told ahead of the place n -/
noncomputable def nmsAt (ls : List (List Nat)) (n : Nat) : List (List Nat) := (List.range ((n + 2) / 4)).map fun k => (cutL 32 (ls.getD (4 * k + 1) [])).getD 1 []
/-- the number of the first line that cannot stand -/
structure BadAt (ls : List (List Nat)) (n : Nat) : Prop where
  w : (∃ i, i < ls.length ∧ n = i + 1 ∧ lnB i (ls.getD i []) (nmsAt ls i) = false ∧ ∀ j, j < i → lnB j (ls.getD j []) (nmsAt ls j) = true) ∨
    ((∀ j, j < ls.length → lnB j (ls.getD j []) (nmsAt ls j) = true) ∧ (nmsAt ls ls.length = [] ∨ ls.length ≠ 1 + 4 * (nmsAt ls ls.length).length) ∧ n = ls.length + 1) ∨
    ((∀ j, j < ls.length → lnB j (ls.getD j []) (nmsAt ls j) = true) ∧ nmsAt ls ls.length ≠ [] ∧ ls.length = 1 + 4 * (nmsAt ls ls.length).length ∧ ∃ i, i < ls.length ∧ n = i + 1 ∧ 0 < i ∧ i % 4 ≠ 1 ∧ (cutL 32 (ls.getD i [])).getLastD [] ∉ nmsAt ls ls.length ∧ ∀ j, j < i → 0 < j → j % 4 ≠ 1 → (cutL 32 (ls.getD j [])).getLastD [] ∈ nmsAt ls ls.length)
def lnAt (ls : List (List Nat)) (i : Nat) : List Nat := ls.getD i []
theorem lnAt_get {ls : List (List Nat)} {i : Nat} {l : List Nat} (e : ls[i]? = some l) : lnAt ls i = l := by unfold lnAt; rw [List.getD_eq_getElem?_getD, e]; rfl
/-- all lines up to the place i can stand -/
def OkTo (ls : List (List Nat)) (i : Nat) : Prop := ∀ j, j < i → lnB j (lnAt ls j) (nmsAt ls j) = true
def TailOk (ls : List (List Nat)) (i : Nat) : Prop := ∀ j, j < i → 0 < j → j % 4 ≠ 1 → (cutL 32 (lnAt ls j)).getLastD [] ∈ nmsAt ls ls.length
structure GoodAt (ls : List (List Nat)) : Prop where
  a : OkTo ls ls.length
  b : nmsAt ls ls.length ≠ []
  c : ls.length = 1 + 4 * (nmsAt ls ls.length).length
  d : TailOk ls ls.length
inductive BadNo (ls : List (List Nat)) : Nat → Prop
  | a (i : Nat) : i < ls.length → OkTo ls i → lnB i (lnAt ls i) (nmsAt ls i) = false → BadNo ls (i + 1)
  | b : OkTo ls ls.length → (nmsAt ls ls.length = [] ∨ ls.length ≠ 1 + 4 * (nmsAt ls ls.length).length) → BadNo ls (ls.length + 1)
  | c (i : Nat) : OkTo ls ls.length → nmsAt ls ls.length ≠ [] → ls.length = 1 + 4 * (nmsAt ls ls.length).length → i < ls.length → TailOk ls i → 0 < i → i % 4 ≠ 1 → (cutL 32 (lnAt ls i)).getLastD [] ∉ nmsAt ls ls.length → BadNo ls (i + 1)
theorem OkTo.snoc {ls : List (List Nat)} {i : Nat} (h : OkTo ls i) (e : lnB i (lnAt ls i) (nmsAt ls i) = true) : OkTo ls (i + 1) := fun j hj => by
  by_cases hji : j = i
  · subst hji; exact e
  · exact h j (by omega)
theorem TailOk.snoc {ls : List (List Nat)} {i : Nat} (h : TailOk ls i) (e : 0 < i → i % 4 ≠ 1 → (cutL 32 (lnAt ls i)).getLastD [] ∈ nmsAt ls ls.length) : TailOk ls (i + 1) := fun j hj => by
  by_cases hji : j = i
  · subst hji; exact e
  · exact h j (by omega)
theorem nmsAt_zero (ls : List (List Nat)) : nmsAt ls 0 = [] := rfl
theorem nmsAt_head {ls : List (List Nat)} {i : Nat} (h : i % 4 = 1) : nmsAt ls (i + 1) = nmsAt ls i ++ [(cutL 32 (lnAt ls i)).getD 1 []] := by
  unfold nmsAt
  rw [show (i + 1 + 2) / 4 = (i + 2) / 4 + 1 by omega, List.range_succ, List.map_append]
  congr 1
  rw [List.map_singleton, show 4 * ((i + 2) / 4) + 1 = i by omega]
  rfl
theorem nmsAt_way {ls : List (List Nat)} {i : Nat} (h : i % 4 ≠ 1) : nmsAt ls (i + 1) = nmsAt ls i := by
  unfold nmsAt
  rw [show (i + 1 + 2) / 4 = (i + 2) / 4 by omega]
theorem nmsAt_len (ls : List (List Nat)) (i : Nat) : (nmsAt ls i).length = (i + 2) / 4 := by unfold nmsAt; simp
theorem lnB_head {ls : List (List Nat)} {i : Nat} (h : i % 4 = 1) {names : List (List Nat)} (e : lnB i (lnAt ls i) names = true) : ∃ nm oft, cutL 32 (lnAt ls i) = stW ⟨nm, oft, fun _ => []⟩ ∧ Nm nm ∧ nm ∉ names ∧ names.length < 64 := by
  unfold lnB at e
  rw [if_neg (by omega), if_pos h] at e
  simp only [Bool.and_eq_true, Bool.not_eq_true', decide_eq_true_eq, decide_eq_false_iff_not] at e
  obtain ⟨h1, h2, h3⟩ := e
  obtain ⟨nm, oft, e1, e2⟩ := stB_row h1
  refine ⟨nm, oft, e1, e2, ?_, h3⟩
  rw [e1] at h2
  cases oft <;> exact h2
/-! ### a text whose lines can stand is a law's -/
def ixF (c : Nat) : Nat := if c = 110 then 0 else if c = 102 then 1 else 2
theorem ixF_lt (c : Nat) : ixF c < 3 := by
  unfold ixF
  split
  · decide
  · split <;> decide
noncomputable def rowAt (ls : List (List Nat)) (j : Nat) : Row3 := ⟨(cutL 32 (lnAt ls (4 * j + 1))).getD 1 [], decide ((cutL 32 (lnAt ls (4 * j + 1))).length = 3), fun c => (cutL 32 (lnAt ls (4 * j + 2 + ixF c))).getLastD []⟩
noncomputable def rowsOf (ls : List (List Nat)) : List Row3 := (List.range ((ls.length + 2) / 4)).map (rowAt ls)
section
variable {ls : List (List Nat)}
theorem rowsOf_nms (ls : List (List Nat)) : (rowsOf ls).map (·.nm) = nmsAt ls ls.length := by
  unfold rowsOf nmsAt
  rw [List.map_map]
  rfl
theorem head_line (h : GoodAt ls) {j : Nat} (hj : 4 * j + 1 < ls.length) : lnAt ls (4 * j + 1) = stL (rowAt ls j) ∧ Nm (rowAt ls j).nm ∧ (rowAt ls j).nm ∉ nmsAt ls (4 * j + 1) ∧ j < 64 := by
  obtain ⟨nm, oft, e, h1, h2, h3⟩ := lnB_head (i := 4 * j + 1) (by omega) (h.a _ hj)
  obtain ⟨_, _, c3⟩ := cutL_ok 32 (lnAt ls (4 * j + 1))
  have en : (rowAt ls j).nm = nm := by
    unfold rowAt
    rw [e]
    cases oft <;> rfl
  have eo : (rowAt ls j).oft = oft := by
    unfold rowAt
    rw [e]
    cases oft <;> rfl
  rw [en]
  refine ⟨?_, h1, h2, ?_⟩
  · rw [← c3, e, stL_eq]
    unfold stW
    rw [en, eo]
  · rw [nmsAt_len] at h3
    omega
theorem way_line (h : GoodAt ls) {j c : Nat} (hc : Fa c) (hj : 4 * j + 2 + ixF c < ls.length) : lnAt ls (4 * j + 2 + ixF c) = onL c ((rowAt ls j).way c) := by
  have hb := h.a _ hj
  have hi := ixF_lt c
  unfold lnB at hb
  rw [if_neg (by omega), if_neg (by omega), show (4 * j + 2 + ixF c - 2) % 4 = ixF c by omega] at hb
  have e1 : ([110, 102, 115] : List Nat).getD (ixF c) 0 = c := by rcases hc with rfl | rfl | rfl <;> rfl
  rw [e1] at hb
  obtain ⟨w, e, hw⟩ := onB_row hb
  obtain ⟨_, _, c3⟩ := cutL_ok 32 (lnAt ls (4 * j + 2 + ixF c))
  have ew : (rowAt ls j).way c = w := by
    unfold rowAt
    show (cutL 32 (lnAt ls (4 * j + 2 + ixF c))).getLastD [] = w
    rw [e]
    rfl
  rw [← c3, e, ew, onL_eq]
theorem rowsOf_len (h : GoodAt ls) : ls.length = 1 + 4 * (rowsOf ls).length := by
  have := h.c
  rw [nmsAt_len] at this
  unfold rowsOf
  rw [List.length_map, List.length_range]
  exact this
theorem rowsOf_at (h : GoodAt ls) {j : Nat} (hj : j < (rowsOf ls).length) : (rowsOf ls)[j]? = some (rowAt ls j) := by
  unfold rowsOf at hj ⊢
  rw [List.length_map, List.length_range] at hj
  rw [List.getElem?_map, List.getElem?_range hj]
  rfl
theorem good_lines (h : GoodAt ls) : ls = linesF (rowsOf ls) := by
  have hl := rowsOf_len h
  have hl2 := linesF_len (rs := rowsOf ls)
  refine List.ext_getElem? fun n => ?_
  by_cases hn : n < ls.length
  rotate_left
  · rw [List.getElem?_eq_none (by omega), List.getElem?_eq_none (by omega)]
  have en : ls[n]? = some (lnAt ls n) := by
    rw [List.getElem?_eq_getElem hn, lnAt_get (List.getElem?_eq_getElem hn)]
  rw [en]
  by_cases h0 : n = 0
  · subst h0
    have hb := h.a 0 hn
    unfold lnB at hb
    rw [if_pos rfl, decide_eq_true_eq] at hb
    rw [hb]
    rfl
  obtain ⟨j, i, rfl, hi⟩ : ∃ j i, n = 4 * j + 1 + i ∧ i < 4 := ⟨(n - 1) / 4, (n - 1) % 4, by omega, by omega⟩
  have hj : j < (rowsOf ls).length := by omega
  have er := rowsOf_at h hj
  have wl : ∀ (c k : Nat), Fa c → ixF c = k → ([110, 102, 115] : List Nat)[k]? = some c → 4 * j + 1 + (1 + k) < ls.length → some (lnAt ls (4 * j + 1 + (1 + k))) = (linesF (rowsOf ls))[4 * j + 1 + (1 + k)]? := fun c k hc hk ec hlt => by
    rw [lines_on er ec, show 4 * j + 1 + (1 + k) = 4 * j + 2 + ixF c by omega, way_line h hc (by omega)]
  match i, hi with
  | 0, _ => rw [Nat.add_zero, lines_head er, (head_line h (by omega)).1]
  | 1, _ => exact wl 110 0 (.inl rfl) rfl rfl (by omega)
  | 2, _ => exact wl 102 1 (.inr (.inl rfl)) rfl rfl (by omega)
  | 3, _ => exact wl 115 2 (.inr (.inr rfl)) rfl rfl (by omega)
theorem good_law (h : GoodAt ls) : LawG (rowsOf ls) := by
  have hl := rowsOf_len h
  have hn := rowsOf_nms ls
  refine ⟨fun z => h.b (by rw [← hn, z]; rfl), ?_, fun r hr => ?_, ?_, fun r hr c hc => ?_⟩
  · by_cases h0 : (rowsOf ls).length = 0
    · omega
    · have := (head_line h (j := (rowsOf ls).length - 1) (by omega)).2.2.2
      omega
  · obtain ⟨j, hj⟩ := List.getElem?_of_mem hr
    have hjl := (List.getElem?_eq_some_iff.mp hj).1
    rw [rowsOf_at h hjl] at hj
    cases hj
    exact (head_line h (by omega)).2.1
  · unfold Uniq
    have key : ∀ m, m ≤ (rowsOf ls).length → (((List.range m).map (rowAt ls)).map (·.nm)).Nodup := fun m => by
      induction m with
      | zero => intro _; simp
      | succ m ih =>
        intro hm
        rw [List.range_succ, List.map_append, List.map_append, List.nodup_append]
        refine ⟨ih (by omega), by simp, fun x hx y hy z => ?_⟩
        have hy2 : y = (rowAt ls m).nm := by simpa using hy
        have := (head_line h (j := m) (by omega)).2.2.1
        apply this
        rw [← hy2, ← z]
        unfold nmsAt
        rw [show (4 * m + 1 + 2) / 4 = m by omega]
        rw [List.map_map] at hx
        exact hx
    have := key (rowsOf ls).length (Nat.le_refl _)
    unfold rowsOf at this ⊢
    rw [List.length_map, List.length_range] at this
    exact this
  · obtain ⟨j, hj⟩ := List.getElem?_of_mem hr
    have hjl := (List.getElem?_eq_some_iff.mp hj).1
    rw [rowsOf_at h hjl] at hj
    cases hj
    rw [hn]
    have hi := ixF_lt c
    exact h.d _ (by omega) (by omega) (by omega)
end
theorem last_onL {c : Nat} {w : List Nat} (hc : Fa c) (hw : Nm w) : (cutL 32 (onL c w)).getLastD [] = w := by
  rw [onL_eq, cut_join (by decide) (by unfold onW; simp)]
  · rfl
  · intro l hl
    unfold onW at hl
    simp only [List.mem_cons, List.not_mem_nil, or_false] at hl
    rcases hl with rfl | rfl | rfl
    · decide
    · rcases hc with rfl | rfl | rfl <;> decide
    · exact hw.sp
/-! ### lists of texts as data -/
theorem strOk_asc {l : List Nat} (h : ∀ c ∈ l, c < 128) : PyData.strOk (S l) = true := by
  unfold PyData.strOk
  rw [← Array.all_toList]
  refine List.all_eq_true.mpr fun c hc => decide_eq_true ?_
  have := h c (by simpa [S] using hc)
  omega
theorem ascs_lay : ∀ ks : List (List Nat), (∀ k ∈ ks, ∀ c ∈ k, c < 128) → PyData.canLayAll0 (ks.map fun k => PyData.str (S k)) = true
  | [], _ => by simp [PyData.canLayAll0]
  | k :: ks, h => by
    have h1 := strOk_asc (h k (List.mem_cons_self ..))
    simp [PyData.canLayAll0, PyData.canLay0, ascs_lay ks (fun x hx => h x (List.mem_cons_of_mem _ hx)), h1]
theorem ascs_depth : ∀ ks : List (List Nat), PyData.depthAll (ks.map fun k => PyData.str (S k)) ≤ 1
  | [] => by simp [PyData.depthAll]
  | k :: ks => by have := ascs_depth ks; simp [PyData.depthAll, PyData.depth]; try omega
theorem ascs_dp {K : PySem.W.Frag} {H : Hp} : ∀ ks : List (List Nat), DpAll K H (ks.map fun k => V.str (S k)) (ks.map fun k => PyData.str (S k))
  | [] => .nil
  | k :: ks => .cons (.str _) (ascs_dp ks)
theorem ascs_shaped {ks : List (List Nat)} (h : ∀ k ∈ ks, ∀ c ∈ k, c < 128) : SeqAt.shaped (.list (ks.map fun k => PyData.str (S k))) = true := by
  unfold SeqAt.shaped
  have := ascs_depth ks
  simp [PyData.canLay0, PyData.depth, ascs_lay ks h]
  omega
theorem ascs_eqv : ∀ ks ls : List (List Nat), PyData.eqv (.list (ks.map fun k => PyData.str (S k))) (.list (ls.map fun k => PyData.str (S k))) = decide (ks = ls) := by
  have key : ∀ ks ls : List (List Nat), PyData.eqvAll (ks.map fun k => PyData.str (S k)) (ls.map fun k => PyData.str (S k)) = decide (ks = ls) := by
    intro ks
    induction ks with
    | nil => intro ls; cases ls <;> simp [PyData.eqvAll]
    | cons k ks ih =>
      intro ls
      cases ls with
      | nil => simp [PyData.eqvAll]
      | cons l ls =>
        simp only [List.map_cons, PyData.eqvAll, ih ls]
        have : PyData.eqv (.str (S k)) (.str (S l)) = decide (k = l) := by
          simp only [PyData.eqv]
          rw [Bool.eq_iff_iff, beq_iff_eq, decide_eq_true_eq]
          exact ⟨fun e => S_iff.mp (congrArg V.str e), fun e => by rw [e]⟩
        rw [this]
        rw [Bool.eq_iff_iff, Bool.and_eq_true, decide_eq_true_eq, decide_eq_true_eq, decide_eq_true_eq]
        exact ⟨fun ⟨a, b⟩ => by rw [a, b], fun e => ⟨(List.cons.inj e).1, (List.cons.inj e).2⟩⟩
  intro ks ls
  simp only [PyData.eqv]
  exact key ks ls
theorem r_neWs {K : PySem.W.Frag} {H : Hp} {Q : VK} {a b : Addr} {ks ls : List (List Nat)} (h1 : ∀ k ∈ ks, ∀ c ∈ k, c < 128) (h2 : ∀ k ∈ ls, ∀ c ∈ k, c < 128) (e1 : H a = some (.lst (ks.map fun k => V.str (S k)))) (e2 : H b = some (.lst (ls.map fun k => V.str (S k)))) (q : Q (.bl (!decide (ks = ls))) H) : rNeD K (.ref a) (.ref b) H Q := by
  refine ⟨_, _, .lst (SqL.of e1) (ascs_dp ks), .lst (SqL.of e2) (ascs_dp ls), ascs_shaped h1, ascs_shaped h2, ?_⟩
  rw [ascs_eqv]
  exact q
/-! ### how long a joined text is -/
def tot (ls : List (List Nat)) : Nat := (ls.map fun l => l.length + 1).sum
theorem tot_app (a b : List (List Nat)) : tot (a ++ b) = tot a + tot b := by unfold tot; rw [List.map_append, List.sum_append]
theorem tot_take (ls : List (List Nat)) (n : Nat) : tot (ls.take n) ≤ tot ls := by
  have h := tot_app (ls.take n) (ls.drop n)
  rw [List.take_append_drop] at h
  omega
theorem tot_drop (ls : List (List Nat)) (n : Nat) : tot (ls.drop n) ≤ tot ls := by
  have h := tot_app (ls.take n) (ls.drop n)
  rw [List.take_append_drop] at h
  omega
theorem tot_one (l : List Nat) : tot [l] = l.length + 1 := by unfold tot; simp
theorem joinL_tot (c : Nat) : ∀ ls : List (List Nat), (TL.joinL [c] ls).length ≤ tot ls ∧ (ls ≠ [] → (TL.joinL [c] ls).length + 1 = tot ls)
  | [] => ⟨by simp [TL.joinL], fun h => absurd rfl h⟩
  | [l] => by simp [TL.joinL, tot]
  | l :: m :: r => by
    obtain ⟨_, h2⟩ := joinL_tot c (m :: r)
    have h3 := h2 (by simp)
    unfold tot at h3 ⊢
    rw [List.map_cons, List.sum_cons, ← h3]
    simp only [TL.joinL, List.length_append, List.length_cons, List.length_nil]
    refine ⟨by omega, fun _ => by omega⟩
theorem tot_cut (c : Nat) (l : List Nat) : tot (cutL c l) = l.length + 1 := by
  obtain ⟨h1, _, h3⟩ := cutL_ok c l
  have := (joinL_tot c (cutL c l)).2 h1
  rw [h3] at this
  exact this.symm
theorem joinL_asc {c : Nat} (hc : c < 128) : ∀ {ls : List (List Nat)}, (∀ l ∈ ls, ∀ x ∈ l, x < 128) → ∀ x ∈ TL.joinL [c] ls, x < 128
  | [], _, x, hx => by simp [TL.joinL] at hx
  | [l], h, x, hx => h l (List.mem_cons_self ..) x (by simpa [TL.joinL] using hx)
  | l :: m :: r, h, x, hx => by
    simp only [TL.joinL, List.mem_append, List.mem_singleton] at hx
    rcases hx with hx | hx | hx
    · exact h l (List.mem_cons_self ..) x hx
    · omega
    · exact joinL_asc hc (fun y hy => h y (List.mem_cons_of_mem _ hy)) x hx
theorem cutL_asc {c : Nat} {l : List Nat} (h : ∀ x ∈ l, x < 128) : ∀ w ∈ cutL c l, ∀ x ∈ w, x < 128 := by
  obtain ⟨_, _, h3⟩ := cutL_ok c l
  have key : ∀ ls : List (List Nat), (∀ x ∈ TL.joinL [c] ls, x < 128) → ∀ w ∈ ls, ∀ x ∈ w, x < 128 := by
    intro ls
    induction ls with
    | nil => exact fun _ w hw => nomatch hw
    | cons y ys ih =>
      intro hx w hw x hxw
      cases ys with
      | nil =>
        rw [List.mem_singleton] at hw
        subst hw
        exact hx x (by simpa [TL.joinL] using hxw)
      | cons z zs =>
        rcases List.mem_cons.mp hw with rfl | hw
        · exact hx x (by simp only [TL.joinL, List.mem_append]; exact .inl hxw)
        · exact ih (fun u hu => hx u (by simp only [TL.joinL, List.mem_append]; exact .inr (.inr hu))) w hw x hxw
  exact key _ (by rw [h3]; exact h)
theorem tot_sum (ls : List (List Nat)) : tot ls = (ls.map fun l => l.length).sum + ls.length := by
  unfold tot
  induction ls with
  | nil => rfl
  | cons l ls ih =>
    rw [List.map_cons, List.sum_cons, List.map_cons, List.sum_cons, List.length_cons, ih]
    omega
theorem r_joinSp {K : PySem.W.Frag} {H : Hp} {Q : VK} {p : Addr} {c : Nat} {ys : List (List Nat)} (hs : SqL K H p (ys.map fun l => V.str (S l))) (hz : tot ys ≤ 500000) (q : Q (.str (S (TL.joinL [c] ys))) H) : rJoin K (.str (S [c])) [.ref p] H Q :=
  ⟨_, p, ys.map S, rfl, rfl, .inl (by rw [List.map_map]; exact hs), by
    have e : ((fun z : Str => z.length) ∘ S) = fun l : List Nat => l.length := funext fun l => S_len l
    rw [List.map_map, S_len]
    rw [show ((·.length) ∘ S : List Nat → Nat) = fun l : List Nat => l.length from e]
    rw [tot_sum] at hz
    simp only [List.length_cons, List.length_nil, List.length_map]
    refine Nat.le_trans ?_ (show 1000000 ≤ _ by decide)
    omega, by rw [join_SP]; exact q⟩
end Tf

set_option Elab.async false
set_option linter.all false
set_option maxRecDepth 100000
set_option maxHeartbeats 2000000
/-! the law's own reading of a law's text -/
namespace Tf
open PySem PySem.Spec PyProof.Rows L2
theorem paired_ix {α β : Type} {F : α → β → Prop} : ∀ {l : List α} {m : List β}, l.length = m.length → (∀ (i : Nat) x y, l[i]? = some x → m[i]? = some y → F x y) → Paired F l m
  | [], [], _, _ => .nil
  | [], _ :: _, h, _ => nomatch h
  | _ :: _, [], h, _ => nomatch h
  | x :: l, y :: m, h, f => .cons (f 0 x y rfl rfl) (paired_ix (Nat.succ.inj h) fun i a b e1 e2 => f (i + 1) a b e1 e2)
def RowK (H : Hp) (r : Row3) (k : Nat) (t d : Addr) : Prop := H t = some (.tup [.str (S r.nm), .bl r.oft, .ref d]) ∧ H d = some (.dK ((wK r.way).take k))
/-- what is found in the first i lines behind the first one -/
structure Fnd (H0 X : Hp) (F : Addr) (ls : List (List Nat)) (i : Nat) (ts ds : List Addr) : Prop where
  f : X F = some (.lst (ts.map V.ref))
  lt : ts.length = (i + 3) / 4
  ld : ds.length = (i + 3) / 4
  nd : ds.Nodup
  fr : ∀ d ∈ ds, H0 d = none
  r : ∀ (j : Nat) t d, ts[j]? = some t → ds[j]? = some d → RowK X (rowAt ls j) (min 3 (i - (4 * j + 1))) t d
section
variable {H0 X Y : Hp} {F : Addr} {ls : List (List Nat)} {i : Nat} {ts ds : List Addr}
theorem Fnd.same (e : Same X Y) (h : Fnd H0 X F ls i ts ds) : Fnd H0 Y F ls i ts ds := ⟨e _ _ h.f, h.lt, h.ld, h.nd, h.fr, fun j t d a b => ⟨e _ _ (h.r j t d a b).1, e _ _ (h.r j t d a b).2⟩⟩
theorem Fnd.zero (h : X F = some (.lst [])) : Fnd H0 X F ls 0 [] [] := ⟨h, rfl, rfl, List.nodup_nil, (fun _ z => nomatch z), fun j t d a => by simp at a⟩
theorem Fnd.tF (h : Fnd H0 X F ls i ts ds) {j : Nat} {t d : Addr} (e1 : ts[j]? = some t) (e2 : ds[j]? = some d) : t ≠ F ∧ d ≠ F := by
  obtain ⟨a, b⟩ := h.r j t d e1 e2
  exact ⟨(fun z => by subst z; rw [h.f] at a; cases a), (fun z => by subst z; rw [h.f] at b; cases b)⟩
/-- a new row -/
theorem Fnd.head (hi : i % 4 = 0) (h : Fnd H0 X F ls i ts ds) {t d : Addr} (hd0 : H0 d = none) (hdn : ∀ d' ∈ ds, d' ≠ d) (ht : X t = some (.tup [.str (S (rowAt ls (i / 4)).nm), .bl (rowAt ls (i / 4)).oft, .ref d])) (hd : X d = some (.dK [])) :
    Fnd H0 (upd X F (.lst (ts.map V.ref ++ [.ref t]))) F ls (i + 1) (ts ++ [t]) (ds ++ [d]) := by
  have tF : t ≠ F := fun z => by subst z; rw [h.f] at ht; cases ht
  have dF : d ≠ F := fun z => by subst z; rw [h.f] at hd; cases hd
  have lt := h.lt
  have ld := h.ld
  refine ⟨by rw [upd_same, List.map_append]; rfl, by rw [List.length_append, lt]; simp; omega, by rw [List.length_append, ld]; simp; omega, ?_, fun x hx => ?_, fun j t' d' e1 e2 => ?_⟩
  · rw [List.nodup_append]
    exact ⟨h.nd, by simp, fun a ha b hb => by rw [List.mem_singleton.mp hb]; exact hdn a ha⟩
  · rcases List.mem_append.mp hx with hx | hx
    · exact h.fr x hx
    · rw [List.mem_singleton.mp hx]; exact hd0
  · by_cases hj : j < ts.length
    · rw [List.getElem?_append_left hj] at e1
      rw [List.getElem?_append_left (by omega)] at e2
      obtain ⟨n1, n2⟩ := h.tF e1 e2
      obtain ⟨a, b⟩ := h.r j t' d' e1 e2
      refine ⟨(upd_ne n1).trans a, (upd_ne n2).trans ?_⟩
      rw [show min 3 (i + 1 - (4 * j + 1)) = min 3 (i - (4 * j + 1)) by omega]
      exact b
    · have hjl := (List.getElem?_eq_some_iff.mp e1).1
      rw [List.length_append, List.length_singleton] at hjl
      have hj2 : j = i / 4 := by omega
      rw [List.getElem?_append_right (by omega), show j - ts.length = 0 by omega] at e1
      rw [List.getElem?_append_right (by omega), show j - ds.length = 0 by omega] at e2
      obtain rfl : t = t' := Option.some.inj e1
      obtain rfl : d = d' := Option.some.inj e2
      subst hj2
      refine ⟨(upd_ne tF).trans ht, (upd_ne dF).trans ?_⟩
      rw [show min 3 (i + 1 - (4 * (i / 4) + 1)) = 0 by omega]
      exact hd
/-- the last row while its ways are told -/
theorem Fnd.last (hi : i % 4 ≠ 0) (h : Fnd H0 X F ls i ts ds) : ∃ t d, atI (ts.map V.ref) (-1) = some (.ref t) ∧ ts[i / 4]? = some t ∧ ds[i / 4]? = some d ∧ RowK X (rowAt ls (i / 4)) (i % 4 - 1) t d ∧ H0 d = none := by
  have lt := h.lt
  have ld := h.ld
  obtain ⟨t, et⟩ : ∃ t, ts[i / 4]? = some t := ⟨_, List.getElem?_eq_getElem (by omega)⟩
  obtain ⟨d, ed⟩ : ∃ d, ds[i / 4]? = some d := ⟨_, List.getElem?_eq_getElem (by omega)⟩
  refine ⟨t, d, ?_, et, ed, ?_, h.fr d (List.mem_of_getElem? ed)⟩
  · have hne : ts ≠ [] := fun z => by subst z; simp at et
    obtain ⟨r1, zl, ez⟩ : ∃ r1 zl, ts = r1 ++ [zl] := ⟨_, _, (List.dropLast_concat_getLast hne).symm⟩
    subst ez
    rw [List.length_append, List.length_singleton] at lt
    rw [List.getElem?_append_right (by omega), show i / 4 - r1.length = 0 by omega] at et
    obtain rfl : zl = t := Option.some.inj et
    rw [List.map_append]
    exact atI_last _ _
  · have := h.r _ t d et ed
    rw [show min 3 (i - (4 * (i / 4) + 1)) = i % 4 - 1 by omega] at this
    exact this
theorem Fnd.lastG (h0 : 0 < (i + 3) / 4) (h : Fnd H0 X F ls i ts ds) : ∃ t d, atI (ts.map V.ref) (-1) = some (.ref t) ∧ RowK X (rowAt ls ((i + 3) / 4 - 1)) (min 3 (i - (4 * ((i + 3) / 4 - 1) + 1))) t d := by
  have lt := h.lt
  have ld := h.ld
  obtain ⟨t, et⟩ : ∃ t, ts[(i + 3) / 4 - 1]? = some t := ⟨_, List.getElem?_eq_getElem (by omega)⟩
  obtain ⟨d, ed⟩ : ∃ d, ds[(i + 3) / 4 - 1]? = some d := ⟨_, List.getElem?_eq_getElem (by omega)⟩
  refine ⟨t, d, ?_, h.r _ t d et ed⟩
  have hne : ts ≠ [] := fun z => by subst z; simp at et
  obtain ⟨r1, zl, ez⟩ : ∃ r1 zl, ts = r1 ++ [zl] := ⟨_, _, (List.dropLast_concat_getLast hne).symm⟩
  subst ez
  rw [List.length_append, List.length_singleton] at lt
  rw [List.getElem?_append_right (by omega), show (i + 3) / 4 - 1 - r1.length = 0 by omega] at et
  obtain rfl : zl = t := Option.some.inj et
  rw [List.map_append]
  exact atI_last _ _
theorem nodup_ix {α : Type} {l : List α} (h : l.Nodup) {i j : Nat} {x : α} (e1 : l[i]? = some x) (e2 : l[j]? = some x) : i = j := by
  obtain ⟨h1, f1⟩ := List.getElem?_eq_some_iff.mp e1
  obtain ⟨h2, f2⟩ := List.getElem?_eq_some_iff.mp e2
  exact (List.getElem_inj h).mp (f1.trans f2.symm)
/-- one way more in the last row -/
theorem Fnd.way (hi : i % 4 ≠ 0) (h : Fnd H0 X F ls i ts ds) {d : Addr} (ed : ds[i / 4]? = some d) : Fnd H0 (upd X d (.dK ((wK (rowAt ls (i / 4)).way).take (i % 4)))) F ls (i + 1) ts ds := by
  have lt := h.lt
  have ld := h.ld
  have dX : X d = some (.dK ((wK (rowAt ls (i / 4)).way).take (i % 4 - 1))) := by
    obtain ⟨t, d', _, _, e2, h3, _⟩ := h.last hi
    rw [ed] at e2
    obtain rfl : d = d' := Option.some.inj e2
    exact h3.2
  have dF : F ≠ d := fun z => by subst z; rw [h.f] at dX; cases dX
  refine ⟨(upd_ne dF).trans h.f, by omega, by omega, h.nd, h.fr, fun j t' d' e1 e2 => ?_⟩
  obtain ⟨a, b⟩ := h.r j t' d' e1 e2
  have td : t' ≠ d := fun z => by subst z; rw [dX] at a; cases a
  refine ⟨(upd_ne td).trans a, ?_⟩
  by_cases hj : j = i / 4
  · subst hj
    rw [ed] at e2
    obtain rfl : d = d' := Option.some.inj e2
    rw [upd_same, show min 3 (i + 1 - (4 * (i / 4) + 1)) = i % 4 by omega]
  · have hdd : d' ≠ d := fun z => hj (nodup_ix h.nd (z ▸ e2) ed)
    rw [upd_ne hdd, show min 3 (i + 1 - (4 * j + 1)) = min 3 (i - (4 * j + 1)) by have := (List.getElem?_eq_some_iff.mp e1).1; omega]
    exact b
theorem wK_put {w : Nat → List Nat} {k c : Nat} (e : ([110, 102, 115] : List Nat)[k]? = some c) : putK ((wK w).take k) (.inr (S [c])) (.str (S (w c))) = (wK w).take (k + 1) := by
  have h : ∀ k, (wK w).take k = (([110, 102, 115] : List Nat).take k).map fun c => ((Sum.inr (S [c]) : Key), V.str (S (w c))) := fun k => by
    rw [List.map_take]
    rfl
  rw [h, h]
  exact nfs_new e
theorem Fnd.own {i : Nat} (hl : ls.length = i + 1) (h4 : i % 4 = 0) (h : Fnd H0 X F ls i ts ds) : OwnH X F (rowsOf ls) := by
  have lt := h.lt
  have ld := h.ld
  refine ⟨ts, h.f, paired_ix (by unfold rowsOf; rw [List.length_map, List.length_range, lt, hl]) fun j r t e1 e2 => ?_⟩
  have hj := (List.getElem?_eq_some_iff.mp e2).1
  obtain ⟨d, ed⟩ : ∃ d, ds[j]? = some d := ⟨_, List.getElem?_eq_getElem (by omega)⟩
  unfold rowsOf at e1
  rw [List.getElem?_map] at e1
  obtain ⟨j', e3, rfl⟩ := Option.map_eq_some_iff.mp e1
  have e4 := List.getElem?_range (i := j) (n := (ls.length + 2) / 4) (by omega)
  rw [e4] at e3
  obtain rfl : j = j' := Option.some.inj e3
  obtain ⟨a, b⟩ := h.r j t d e2 ed
  rw [show min 3 (i - (4 * j + 1)) = 3 by omega] at b
  exact ⟨d, a, b⟩
end
/-- the form of a state's line, but for its name -/
def fmB (ws : List (List Nat)) : Bool := decide (ws[0]? = some wState) && (decide (ws.length = 2 ∨ ws.length = 3) && decide (ws.drop 2 = [] ∨ ws.drop 2 = [wOften]))
theorem fm_st (ws : List (List Nat)) : stB ws = (fmB ws && nmB (ws.getD 1 [])) := by
  unfold stB fmB
  match ws with
  | [] => simp
  | [a] => simp
  | [a, b] =>
    cases h : nmB ([a, b].getD 1 []) <;> simp [h]
  | [a, b, c] =>
    cases h : nmB ([a, b, c].getD 1 []) <;> simp [h]
  | a :: b :: c :: d :: r => simp
theorem cutL_one {c : Nat} {l w : List Nat} (hc : c < 256) (hw : c ∉ w) : cutL c l = [w] ↔ l = w := by
  constructor
  · intro h
    have := (cutL_ok c l).2.2
    rw [h] at this
    simpa [TL.joinL] using this.symm
  · rintro rfl
    have := cut_join (c := c) hc (ls := [l]) (by simp) (by simpa using hw)
    simpa [TL.joinL] using this
theorem r_inWs {K : PySem.W.Frag} {H : Hp} {Q : VK} {a p b d : Addr} {ks : List (List Nat)} (h1 : ∀ k ∈ ks, ∀ c ∈ k, c < 128) (e1 : SqL K H a (ks.map fun k => V.str (S k))) (ep : SqT K H p [.ref b, .ref d]) (eb : SqL K H b []) (ed : SqL K H d [.str (S wOften)])
    (q : Q (.bl (decide (ks = [] ∨ ks = [wOften]))) H) : rInDT K (.ref a) (.ref p) H Q := by
  have s1 := ascs_shaped h1
  have dk := ascs_depth ks
  refine ⟨.list (ks.map fun k => PyData.str (S k)), [.list (([] : List (List Nat)).map fun k => PyData.str (S k)), .list (([wOften] : List (List Nat)).map fun k => PyData.str (S k))], .lst e1 (ascs_dp ks), .tup ep (.cons (.lst eb .nil) (.cons (.lst ed (.cons (.str _) .nil)) .nil)), s1, ?_, ?_, ?_⟩
  · decide +kernel
  · simp only [PyData.depth]
    omega
  · have : ([PyData.list (([] : List (List Nat)).map fun k => PyData.str (S k)), .list (([wOften] : List (List Nat)).map fun k => PyData.str (S k))].any fun z => PyData.eqv z (.list (ks.map fun k => PyData.str (S k)))) = decide (ks = [] ∨ ks = [wOften]) := by
      simp only [List.any_cons, List.any_nil, ascs_eqv, Bool.or_false]
      rw [Bool.eq_iff_iff, Bool.or_eq_true, decide_eq_true_eq, decide_eq_true_eq, decide_eq_true_eq]
      exact ⟨fun h => h.imp Eq.symm Eq.symm, fun h => h.imp Eq.symm Eq.symm⟩
    rw [this]
    exact q
theorem r_inI2 {K : PySem.W.Frag} {H : Hp} {Q : VK} {p : Addr} {n : Nat} (ep : SqT K H p [.int 2, .int 3]) (q : Q (.bl (decide (n = 2 ∨ n = 3))) H) : rInDT K (.int n) (.ref p) H Q := by
  refine ⟨.int n, [.int 2, .int 3], .int _, .tup ep (.cons (.int _) (.cons (.int _) .nil)), by rfl, by rfl, by simp [PyData.depth], ?_⟩
  have : ([PyData.int 2, .int 3].any fun z => PyData.eqv z (.int n)) = decide (n = 2 ∨ n = 3) := by
    simp only [List.any_cons, List.any_nil, PyData.eqv, Bool.or_false]
    rw [Bool.eq_iff_iff, Bool.or_eq_true, beq_iff_eq, beq_iff_eq, decide_eq_true_eq]
    omega
  rw [this]
  exact q
theorem occ_nfs {k c : Nat} (e : ([110, 102, 115] : List Nat)[k]? = some c) : ∃ rest, Builtin.Str.occurrences (S [110, 102, 115]) (S [c]) 0 (S [110, 102, 115]).length 1 = k :: rest := by
  have hk := (List.getElem?_eq_some_iff.mp e).1
  match k, hk with
  | 0, _ => obtain rfl : (110 : Nat) = c := Option.some.inj e; exact ⟨[], by decide +kernel⟩
  | 1, _ => obtain rfl : (102 : Nat) = c := Option.some.inj e; exact ⟨[], by decide +kernel⟩
  | 2, _ => obtain rfl : (115 : Nat) = c := Option.some.inj e; exact ⟨[], by decide +kernel⟩
theorem nms_at {ls : List (List Nat)} {i k : Nat} (h : k < (i + 3) / 4) : (nmsAt ls (i + 1))[k]? = some (rowAt ls k).nm := by
  unfold nmsAt
  rw [List.getElem?_map, List.getElem?_range (i := k) (by omega)]
  rfl
theorem nms_few {ls : List (List Nat)} {i : Nat} (hi : i % 4 = 0) (ok : OkTo ls (i + 1)) : (i + 3) / 4 ≤ 64 := by
  by_cases h0 : i = 0
  · omega
  · obtain ⟨_, _, _, _, _, h⟩ := lnB_head (i := i - 3) (by omega) (ok (i - 3) (by omega))
    rw [nmsAt_len] at h
    omega
theorem ixF_at {k c : Nat} (e : ([110, 102, 115] : List Nat)[k]? = some c) : ixF c = k := by
  have hk := (List.getElem?_eq_some_iff.mp e).1
  match k, hk with
  | 0, _ => obtain rfl : (110 : Nat) = c := Option.some.inj e; rfl
  | 1, _ => obtain rfl : (102 : Nat) = c := Option.some.inj e; rfl
  | 2, _ => obtain rfl : (115 : Nat) = c := Option.some.inj e; rfl
theorem way_at {ls : List (List Nat)} {j k c : Nat} (e : ([110, 102, 115] : List Nat)[k]? = some c) : (rowAt ls j).way c = (cutL 32 (lnAt ls (4 * j + 2 + k))).getLastD [] := by
  unfold rowAt
  show (cutL 32 (lnAt ls (4 * j + 2 + ixF c))).getLastD [] = _
  rw [ixF_at e]
theorem rowAt_nm (ls : List (List Nat)) (m : Nat) : (List.range m).map (fun j => (rowAt ls j).nm) = (List.range m).map fun k => (cutL 32 (ls.getD (4 * k + 1) [])).getD 1 [] := rfl
/-! ### parts of lists of texts -/
section
variable {K : PySem.W.Frag} {H : Hp} {Q : VK} {p q : Addr} {ws vs : List (List Nat)} {n : Nat} {z : Int}
theorem r_revL {te : TE} {σ : L2.St} (h : te σ H fun x H1 => ∃ a xs, x = .ref a ∧ SqL K H1 a xs ∧ ∀ p, H1 p = none → Q (.ref p) (upd H1 p (.lst xs.reverse))) : tRevL K te σ H Q := h
theorem r_wsTo (n : Nat) (ez : z = (n : Int)) (hs : H p = some (.lst (ws.map fun l => V.str (S l)))) (h : ∀ H1 q, Same H H1 → H q = none → H1 q = some (.lst ((ws.take n).map fun l => V.str (S l))) → Q (.ref q) H1) : rSlL K (.ref p) none (some z) H Q := by
  subst ez
  refine r_slL (SqL.of hs) fun q hq => ?_
  rw [cutV_to, ← List.map_take]
  exact h _ _ (same_new hq) hq upd_same
theorem r_wsFrom (n : Nat) (ez : z = (n : Int)) (hn : n ≤ ws.length) (hs : H p = some (.lst (ws.map fun l => V.str (S l)))) (h : ∀ H1 q, Same H H1 → H q = none → H1 q = some (.lst ((ws.drop n).map fun l => V.str (S l))) → Q (.ref q) H1) : rSlL K (.ref p) (some z) none H Q := by
  subst ez
  refine r_slL (SqL.of hs) fun q hq => ?_
  rw [cutV_from (by rw [List.length_map]; exact hn), ← List.map_drop]
  exact h _ _ (same_new hq) hq upd_same
theorem r_wsMid {lo hi : Option Int} (hs : H p = some (.lst (ws.map fun l => V.str (S l)))) (h : ∀ H1 q vs, Same H H1 → H q = none → tot vs ≤ tot ws → (∀ w ∈ vs, w ∈ ws) → H1 q = some (.lst (vs.map fun l => V.str (S l))) → Q (.ref q) H1) : rSlL K (.ref p) lo hi H Q := by
  refine r_slL (SqL.of hs) fun q hq => ?_
  unfold cutV
  rw [← List.map_drop, ← List.map_take]
  exact h _ _ _ (same_new hq) hq (Nat.le_trans (tot_take _ _) (tot_drop _ _)) (fun w hw => List.mem_of_mem_drop (List.mem_of_mem_take hw)) upd_same
theorem r_wsCat (h1 : H p = some (.lst (ws.map fun l => V.str (S l)))) (h2 : H q = some (.lst (vs.map fun l => V.str (S l)))) (hb : ws.length + vs.length ≤ 1000000) (h : ∀ H1 r, Same H H1 → H r = none → H1 r = some (.lst ((ws ++ vs).map fun l => V.str (S l))) → Q (.ref r) H1) : rCat (.ref p) (.ref q) H Q := by
  refine ⟨p, q, _, _, rfl, rfl, h1, h2, by rw [List.length_map, List.length_map]; exact Nat.le_of_lt (lt_line (by omega)), fun r hr => ?_⟩
  rw [← List.map_append]
  exact h _ _ (same_new hr) hr upd_same
theorem tot_rev (ws : List (List Nat)) : tot ws.reverse = tot ws := by
  unfold tot
  rw [List.map_reverse, List.sum_reverse]
theorem tot_len (ws : List (List Nat)) : ws.length ≤ tot ws := by
  rw [tot_sum]
  omega
/-- lines as they come of others: not much longer, letters as they were -/
structure Bnt (m : Nat) (ws : List (List Nat)) : Prop where
  t : tot ws ≤ m
  a : ∀ w ∈ ws, ∀ c ∈ w, c < 128
theorem Bnt.app {m k : Nat} (h : Bnt m ws) (g : Bnt k vs) : Bnt (m + k) (ws ++ vs) := ⟨by rw [tot_app]; have := h.t; have := g.t; omega, fun w hw => (List.mem_append.mp hw).elim (h.a w) (g.a w)⟩
theorem Bnt.take {m : Nat} (h : Bnt m ws) (n : Nat) : Bnt m (ws.take n) := ⟨Nat.le_trans (tot_take _ _) h.t, fun w hw => h.a w (List.mem_of_mem_take hw)⟩
theorem Bnt.drop {m : Nat} (h : Bnt m ws) (n : Nat) : Bnt m (ws.drop n) := ⟨Nat.le_trans (tot_drop _ _) h.t, fun w hw => h.a w (List.mem_of_mem_drop hw)⟩
theorem Bnt.rev {m : Nat} (h : Bnt m ws) : Bnt m ws.reverse := ⟨by rw [tot_rev]; exact h.t, fun w hw => h.a w (List.mem_reverse.mp hw)⟩
theorem Bnt.len {m : Nat} (h : Bnt m ws) : ws.length ≤ m := Nat.le_trans (tot_len _) h.t
theorem Bnt.one {m : Nat} {l : List Nat} (h1 : l.length < m) (h : ∀ c ∈ l, c < 128) : Bnt m [l] := ⟨by rw [tot_one]; omega, fun w hw => by rw [List.mem_singleton.mp hw]; exact h⟩
end
end Tf

set_option Elab.async false
set_option linter.all false
set_option maxRecDepth 100000
set_option maxHeartbeats 2000000
/-! ==, != and len of an object by its class's own methods -/
namespace Tk
open PySem PySem.W PySem.Calls PyProof.Rows Builtin
section
variable {prog : Program} {w : World} {A : Around} {E : Value → Shared → Prop} {s : Shared} {K : Frag} {x C L f : Addr} {h₀ : Heap} {m : Str → Option Value} {ox : Obj} {od : Option Obj} {b tb : Value}
theorem ifBound_S {M : Model} {T : String} {name : Str} {id : String} {args : List Value} {Q : Option Value → Shared → Prop} (S : Slot T name id) (X : K.In s.heap) (I : InstAt s.heap x ox C od) (hs : findIn K (.ref C) name = some (some (.builtin id)))
    (h : wpAny M A (call (.builtin id) (.ref x :: args)) (fun v => Q (some v)) E s) : wpAny M A (callSpecialIfBound? (.ref x) name args) Q E s := by
  simp only [callSpecialIfBound?, bindSpecialIfBound?]
  refine wpAny_holding (wpAny_bind (wpAny_bind (wpAny_bind (I.type.here ((looks_findIn X hs).here ?_)))))
  simp only [S.bind]
  refine wpAny_bind (wpAny_askSetting (wpAny_ite ?_))
  have fin : wpAny M A (call (.builtin id) ([.ref x] ++ args) >>= fun v => pure (some v)) Q E s := wpAny_bind (wpAny_mono h (fun v s' h' => wpAny_pure h') fun _ _ h' => h')
  split
  · exact wpAny_bind (wpAny_pure (wpAny_pure fin))
  · exact wpAny_tryCatch (wpAny_bind (wpAny_pure (wpAny_pure fin)))
theorem ne_entry {Q : Fin → Shared → Prop} (hu : A.units < cLine) (X : K.In s.heap) (I : InstAt s.heap x ox C od) (heq : findIn K (.ref C) "__eq__" = some (some (.ref f))) (hf : isFn K (.ref f) = true)
    (h : wpAny (model prog w) A (call (.ref f) [.ref x, b]) (fun v s' => ∃ r, v = .bool r ∧ Q (.done (.ret (.bool (!r)))) s') E s) :
    wpAny (model prog w) A (Builtin.«object.__ne__» ⟨[.ref x, b], []⟩) Q E s := by
  unfold Builtin.«object.__ne__»
  repeat (first
    | with_reducible refine wpAny_cRoomFor hu ?_
    | (refine wpAny_bind (m := callSpecialIfBound? (.ref x) (Str.ofString "__eq__") [b])
        (ifBound_K X I heq hf (wpAny_mono h (fun r s' hr => by
          obtain ⟨b, rfl, hq⟩ := hr
          repeat (first | exact hq | exact wpAny_pure hq | exact wpAny_truthy_bool hq | (refine wpAny_bind (m := truthy (.bool _)) (wpAny_truthy_bool ?_)) | wp_step)) fun _ _ e => e)))
    | wp_step)
theorem try_ne {Q : Option Value → Shared → Prop} (hu : A.units + 1 < cLine) (X : K.In s.heap) (I : InstAt s.heap x ox C od) (hne : findIn K (.ref C) "__ne__" = some (some (.builtin "object.__ne__"))) (heq : findIn K (.ref C) "__eq__" = some (some (.ref f))) (hf : isFn K (.ref f) = true)
    (ht : subIn K (.ref C) (.type "object") = some true)
    (h : wpAny (model prog w) A.in1 (call (.ref f) [.ref x, b]) (fun v s' => ∃ r, v = .bool r ∧ Q (some (.bool (!r))) s') E s) :
    wpAny (model prog w) A (tryCompare (.ref x) "__ne__" b) Q E s := by
  simp only [tryCompare]
  refine wpAny_bind (ifBound_S F.slot_object_ne X I hne (wpAny_call (codeAny_call_builtin F.slot_object_ne.plain F.cmpEntry_ne
    (check_slot F.cmpKind_ne F.cmpSplit_ne (I.type.andThen (looks_subIn X ht)) (F.cmpArgs_ne _ _)
      (ne_entry (A := A.in1) hu X I heq hf (wpAny_mono h (fun v s' hv => ?_) fun _ _ e => e))))))
  obtain ⟨b, rfl, hq⟩ := hv
  first | exact ⟨b, rfl, wpAny_pure hq⟩ | exact ⟨b, rfl, wpAny_pure (wpAny_pure hq)⟩ | exact ⟨b, rfl, hq⟩
theorem ne_K {Q : Value → Shared → Prop} (hu : A.units + 1 < cLine) (X : K.In s.heap) (I : InstAt s.heap x ox C od) (hb : Looks (model prog w) s.heap (typeOf b) tb) (hn : notFirst K C tb = true) (hne : findIn K (.ref C) "__ne__" = some (some (.builtin "object.__ne__"))) (heq : findIn K (.ref C) "__eq__" = some (some (.ref f))) (hf : isFn K (.ref f) = true)
    (ht : subIn K (.ref C) (.type "object") = some true)
    (h : wpAny (model prog w) A.in1 (call (.ref f) [.ref x, b]) (fun v s' => ∃ r, v = .bool r ∧ Q (.bool (!r)) s') E s) :
    wpAny (model prog w) A (richCompare .NotEq (.ref x) b) Q E s := by
  have one : wpAny (model prog w) A (tryCompare (.ref x) (cmpInfo .NotEq).2.1 b) (fun r s' => ∃ v, r = some v ∧ Q v s') E s := by
    rw [cmpInfo_NotEq]
    exact try_ne hu X I hne heq hf ht (wpAny_mono h (fun v s' ⟨r, e, q⟩ => ⟨r, e, _, rfl, q⟩) fun _ _ e => e)
  unfold richCompare
  simp only [oneThing_ref]
  refine wpAny_holding (wpAny_bind (wpAny_cRoomFor (Nat.lt_of_succ_lt hu) ?_))
  refine wpAny_bind (I.type.here (wpAny_bind (hb.here ?_)))
  split
  · rename_i q
    have e : subIn K tb (.ref C) = some false := by
      rcases Bool.or_eq_true_iff.mp hn with e | e
      · rw [beq_iff_eq.mp e] at q; simp at q
      · exact beq_iff_eq.mp e
    refine wpAny_bind ((looks_subIn X e).here ?_)
    simp only [Bool.false_eq_true, if_false]
    refine wpAny_bind (wpAny_mono one (fun r s' z => ?_) fun _ _ e => e)
    obtain ⟨v, rfl, hq⟩ := z
    exact wpAny_pure hq
  · refine wpAny_bind (wpAny_pure ?_)
    simp only [Bool.false_eq_true, if_false]
    refine wpAny_bind (wpAny_mono one (fun r s' z => ?_) fun _ _ e => e)
    obtain ⟨v, rfl, hq⟩ := z
    exact wpAny_pure hq
end
end Tk
namespace Tf
open PySem PySem.Spec PyProof.Rows L2 LamX
/-- the own methods of the class at C that operators call -/
structure OwnC (K : PySem.W.Frag) (C : Addr) : Prop where
  eq : PySem.W.findIn K (.ref C) "__eq__" = some (some (.ref (He.ma K C "__eq__")))
  eqf : PySem.W.isFn K (.ref (He.ma K C "__eq__")) = true
  ne : PySem.W.findIn K (.ref C) "__ne__" = some (some (.builtin "object.__ne__"))
  top : PySem.W.subIn K (.ref C) (.type "object") = some true
  st : PySem.W.notFirst K C (.type "str") = true
def ownCB (K : PySem.W.Frag) (C : Addr) : Bool := He.eqO (PySem.W.findIn K (.ref C) "__eq__") (some (some (.ref (He.ma K C "__eq__")))) && (PySem.W.isFn K (.ref (He.ma K C "__eq__")) && (He.eqO (PySem.W.findIn K (.ref C) "__ne__") (some (some (.builtin "object.__ne__"))) && (PySem.W.subIn K (.ref C) (.type "object") == some true && PySem.W.notFirst K C (.type "str"))))
theorem ownC_ok {K : PySem.W.Frag} {C : Addr} (h : ownCB K C = true) : OwnC K C := by
  unfold ownCB at h
  simp only [Bool.and_eq_true] at h
  obtain ⟨h1, h2, h3, h4, h5⟩ := h
  exact ⟨He.eqO_ok h1, h2, He.eqO_ok h3, beq_iff_eq.mp h4, h5⟩
structure OwnL (K : PySem.W.Frag) (C : Addr) : Prop where
  ln : PySem.W.findIn K (.ref C) "__len__" = some (some (.ref (He.ma K C "__len__")))
  lnf : PySem.W.isFn K (.ref (He.ma K C "__len__")) = true
def ownLB (K : PySem.W.Frag) (C : Addr) : Bool := He.eqO (PySem.W.findIn K (.ref C) "__len__") (some (some (.ref (He.ma K C "__len__")))) && PySem.W.isFn K (.ref (He.ma K C "__len__"))
theorem ownL_ok {K : PySem.W.Frag} {C : Addr} (h : ownLB K C = true) : OwnL K C := by
  unfold ownLB at h
  simp only [Bool.and_eq_true] at h
  obtain ⟨h1, h2⟩ := h
  exact ⟨He.eqO_ok h1, h2⟩
/-- x == y (x != y where neg) by the own == of the class at C; y another one of it, or a text -/
def rEqO (C : Addr) (sp : Sp) (neg : Bool) : R2 := fun x y H Q => ∃ a dx fs, x = .ref a ∧ H a = some (.ins C dx fs) ∧ ((∃ b dy gs, y = .ref b ∧ H b = some (.ins C dy gs)) ∨ ∃ z, y = .str z) ∧ sp [x, y] H (fun v H' => ∃ r, v = .bl r ∧ Q (.bl (r != neg)) H') E0
section
variable {X : Cx} {C : Addr} {k : Nat} {sp : Sp}
theorem run_own {A : Around} {pins : List (Addr × Obj)} {σ : L2.St} {H : Hp} {s : Shared} {x y : V} {u v : Value} {f : Addr} {fd : FuncData} {ps : List Str} {Qv : VK}
    (F : FnOk X.prog X.w X.K X.mg X.base CX0 k f fd ps sp) (hb : Binds X.K fd ps []) (hr : Room k A) (fr : A.frames = X.A.frames) (I : Inv X pins σ H s) (rx : RelV x u) (ry : RelV y v) (h : sp [x, y] H Qv E0)
    {Q : Value → Shared → Prop} (fin : ∀ (z : V) (r : Value) H' s', Inv X pins σ H' s' → RelV z r → Qv z H' → Q r s') : wpAny (model X.prog X.w) A (call (.ref f) [u, v]) Q X.xe s := by
  have e0 : Env0 X.prog X.w X.K X.mg X.base A X.stack s H := by
    have e := I.env0
    exact ⟨by rw [fr]; exact e.frames, e.mod, e.bs, e.bsz, e.funs, e.frf, e.hok, e.bare⟩
  have hl := F.len _ _ _ _ h
  have r2 : Vals [x, y] [u, v] := .cons rx (.cons ry .nil)
  refine wpAny_call (codeAny_mono (F.run A X.stack s H ⟨[u, v], []⟩ [u, v] [x, y] _ E0 hr e0 (by
    have := hb s [u, v] I.kIn (by simpa using hl)
    simpa using this) r2 h) fun r s' hq => ?_)
  cases r with
  | error e => exact pass0 (X := X) pins σ H s e s' I hq
  | ok fl =>
    cases fl with
    | ret w =>
      obtain ⟨z, H', I', rz, ez⟩ := I.after hq
      exact fin z w H' s' I' rz ez
    | next => exact False.elim hq
    | brk => exact False.elim hq
    | cont => exact False.elim hq
theorem op_eqO (F : OkM X.prog X.w X.K X.mg X.base CX0 k C0 "__eq__" ps sp) (hC : C = He.ga X.K C0) (own : OwnC X.K C) (hr : Room (k + 1) X.A) : OpR X (compareOp .Eq) (rEqO C sp false) := by
  subst hC
  intro pins s σ H x y v u Q I rx ry h
  obtain ⟨a, dx, fs, rfl, ha, hy, h⟩ := h
  obtain ⟨fd, hb, F⟩ := F.ex
  cases rx
  show wpAny (model X.prog X.w) X.A (richCompare .Eq (.ref a) u) (EP X pins σ Q) X.xe s
  obtain ⟨mA, J, _⟩ := ins_get I.hok ha
  obtain ⟨od, J, _⟩ := J.look
  obtain ⟨m, hF⟩ := I.fr
  have go : ∀ {tb : Value}, PySem.W.Looks (model X.prog X.w) s.heap (typeOf u) tb → PySem.W.notFirst X.K (He.ga X.K C0) tb = true → wpAny (model X.prog X.w) X.A (richCompare .Eq (.ref a) u) (EP X pins σ Q) X.xe s := fun hb2 hn => by
    refine PySem.W.cmp_K (op := .Eq) hr.units0 hF I.ok.mod.kin J hb2 hn own.eq own.eqf ?_
    refine run_own F hb (hr.mono (Nat.le_succ _)) rfl I (show RelV (V.ref a) (Value.ref a) from rfl) ry h fun z r H' s' I' rz ⟨b, ez, q⟩ => ?_
    subst ez
    cases rz
    exact ⟨.bl _, H', I', rfl, by simpa using q⟩
  rcases hy with ⟨b, dy, gs, rfl, hb2⟩ | ⟨z, rfl⟩
  · cases ry
    obtain ⟨mB, J', _⟩ := ins_get I.hok hb2
    obtain ⟨od', J', _⟩ := J'.look
    exact go J'.type (by simp [PySem.W.notFirst])
  · obtain ⟨t, rfl⟩ := ry
    exact go (PySem.W.Looks.of_pure (by rfl)) own.st
theorem op_neO (F : OkM X.prog X.w X.K X.mg X.base CX0 k C0 "__eq__" ps sp) (hC : C = He.ga X.K C0) (own : OwnC X.K C) (hr : Room (k + 1) X.A) : OpR X (compareOp .NotEq) (rEqO C sp true) := by
  subst hC
  intro pins s σ H x y v u Q I rx ry h
  obtain ⟨a, dx, fs, rfl, ha, hy, h⟩ := h
  obtain ⟨fd, hb, F⟩ := F.ex
  cases rx
  show wpAny (model X.prog X.w) X.A (richCompare .NotEq (.ref a) u) (EP X pins σ Q) X.xe s
  obtain ⟨mA, J, _⟩ := ins_get I.hok ha
  obtain ⟨od, J, _⟩ := J.look
  obtain ⟨m, hF⟩ := I.fr
  have go : ∀ {tb : Value}, PySem.W.Looks (model X.prog X.w) s.heap (typeOf u) tb → PySem.W.notFirst X.K (He.ga X.K C0) tb = true → wpAny (model X.prog X.w) X.A (richCompare .NotEq (.ref a) u) (EP X pins σ Q) X.xe s := fun hb2 hn => by
    refine Tk.ne_K (by have := hr.un; omega) I.kIn J hb2 hn own.ne own.eq own.eqf own.top ?_
    refine run_own F hb hr.in1 (by rfl) I (show RelV (V.ref a) (Value.ref a) from rfl) ry h fun z r H' s' I' rz ⟨b, ez, q⟩ => ?_
    subst ez
    cases rz
    exact ⟨_, rfl, .bl _, H', I', rfl, by simpa using q⟩
  rcases hy with ⟨b, dy, gs, rfl, hb2⟩ | ⟨z, rfl⟩
  · cases ry
    obtain ⟨mB, J', _⟩ := ins_get I.hok hb2
    obtain ⟨od', J', _⟩ := J'.look
    exact go J'.type (by simp [PySem.W.notFirst])
  · obtain ⟨t, rfl⟩ := ry
    exact go (PySem.W.Looks.of_pure (by rfl)) own.st
end
/-- len(x) by the own __len__ of the class at C -/
def rLenO (C : Addr) (sp : Sp) : RL := fun xs H Q => ∃ a dx fs, xs = [.ref a] ∧ H a = some (.ins C dx fs) ∧ sp [.ref a] H (fun v H' => ∃ n : Nat, v = .int n ∧ n ≤ 1000000 ∧ Q (.int n) H') E0
section
variable {X : Cx} {C : Addr} {k : Nat} {sp : Sp} {C0 : Str} {ps : List Str}
theorem cr_lenO (F : OkM X.prog X.w X.K X.mg X.base CX0 k C0 "__len__" ps sp) (hC : C = He.ga X.K C0) (own : OwnL X.K C) (hr : Room (k + 1) X.A) : CallR X (.builtin "len") (rLenO C sp) := by
  subst hC
  intro pins s σ H xs us Q I rx h
  obtain ⟨a, dx, fs, rfl, ha, h⟩ := h
  obtain ⟨u, rfl, r1⟩ := vals1 rx
  cases r1
  obtain ⟨fd, hb, F⟩ := F.ex
  obtain ⟨mA, J, _⟩ := ins_get I.hok ha
  obtain ⟨od, J, _⟩ := J.look
  obtain ⟨m, hF⟩ := I.fr
  refine PySem.W.len_K hF I.ok.mod.kin J own.ln own.lnf ?_
  have e0 : Env0 X.prog X.w X.K X.mg X.base X.A.in1 X.stack s H := by
    have e := I.env0
    exact ⟨by rw [show X.A.in1.frames = X.A.frames from rfl]; exact e.frames, e.mod, e.bs, e.bsz, e.funs, e.frf, e.hok, e.bare⟩
  have hl := F.len _ _ _ _ h
  have r2 : Vals [V.ref a] [Value.ref a] := .cons rfl .nil
  refine wpAny_call (codeAny_mono (F.run X.A.in1 X.stack s H ⟨[.ref a], []⟩ [.ref a] [.ref a] _ E0 hr.in1 e0 (by
    have := hb s [.ref a] I.kIn (by simpa using hl)
    simpa using this) r2 h) fun r s' hq => ?_)
  cases r with
  | error e => exact pass0 (X := X) pins σ H s e s' I hq
  | ok fl =>
    cases fl with
    | ret w =>
      obtain ⟨z, H', I', rz, n, ez, hn, q⟩ := I.after hq
      subst ez
      obtain ⟨t, rfl⟩ := rz
      exact ⟨⟨by omega, by omega⟩, .int n, H', I'.tok _, ⟨_, rfl⟩, q⟩
    | next => exact False.elim hq
    | brk => exact False.elim hq
    | cont => exact False.elim hq
end
/-- isinstance with the class at C -/
structure OwnI (K : PySem.W.Frag) (C : Addr) : Prop where
  cl : PySem.W.findIn K (.ref C) "__class__" = some (some (.builtin "object.__class__"))
  gt : PySem.W.specialIn K (.builtin "object.__class__") "__get__" = some (some (.builtin "getset_descriptor.__get__"))
  tk : PySem.W.takesIn K (.builtin "object.__class__") = some true
  mr : PySem.W.mroIn K C (.type "object") = some true
  ki : PySem.W.kitOne K (.ref C) (.ref C) = some true
  ks : PySem.W.kitOne K (.type "str") (.ref C) = some false
def ownIB (K : PySem.W.Frag) (C : Addr) : Bool := He.eqO (PySem.W.findIn K (.ref C) "__class__") (some (some (.builtin "object.__class__"))) && (He.eqO (PySem.W.specialIn K (.builtin "object.__class__") "__get__") (some (some (.builtin "getset_descriptor.__get__"))) && (PySem.W.takesIn K (.builtin "object.__class__") == some true && (PySem.W.mroIn K C (.type "object") == some true && (PySem.W.kitOne K (.ref C) (.ref C) == some true && PySem.W.kitOne K (.type "str") (.ref C) == some false))))
theorem ownI_ok {K : PySem.W.Frag} {C : Addr} (h : ownIB K C = true) : OwnI K C := by
  unfold ownIB at h
  simp only [Bool.and_eq_true] at h
  obtain ⟨h1, h2, h3, h4, h5, h6⟩ := h
  exact ⟨He.eqO_ok h1, He.eqO_ok h2, beq_iff_eq.mp h3, beq_iff_eq.mp h4, beq_iff_eq.mp h5, beq_iff_eq.mp h6⟩
theorem r_isiO {K : PySem.W.Frag} {H : Hp} {Q : VK} {a C dx : Addr} {fs : List (Str × V)} (o : OwnI K C) (cl : Cls K C) (e : H a = some (.ins C dx fs)) (q : Q (.bl true) H) : rIsi K [.ref a, .ref C] H Q :=
  ⟨_, _, _, _, _, rfl, .own _, .base (.ins e cl o.cl o.gt o.tk o.mr), o.ki, q⟩
theorem r_isiOs {K : PySem.W.Frag} {H : Hp} {Q : VK} {C : Addr} {z : Str} (o : OwnI K C) (q : Q (.bl false) H) : rIsi K [.str z, .ref C] H Q :=
  ⟨_, _, _, _, _, rfl, .own _, .base (.str z), o.ks, q⟩
end Tf
namespace Tf
open PySem PySem.Spec PyProof.Rows L2 LamX
theorem thnT {α : Type} {M : Model} {A : Around} {t : Sem α} {Q0 Q : α → Shared → Prop} {E : Value → Shared → Prop} {s : Shared} (h : wpAny M A t Q0 E s) (f : ∀ v s', s.toks ≤ s'.toks → Q0 v s' → Q v s') : wpAny M A t Q E s :=
  wpAny_mono (PySem.wpAny_toks h) (fun v s' q => f v s' q.1 q.2) fun _ _ z => z.2
/-- evaluated, and a token is out -/
def PEU (X : Cx) (e : Expr) (t : TE) : Prop :=
  ∀ (pins : List (Addr × Obj)) (s : Shared) (σ : L2.St) (H : Hp) (Q : VK), Inv X pins σ H s → t σ H Q → wpAny (model X.prog X.w) X.A (eval e X.env) (fun v s' => 1 ≤ s'.toks ∧ EP X pins σ Q v s') X.xe s
section
variable {X : Cx} {e : Expr} {es : List Expr} {te tr : TE} {ta : TA} {r : R2}
theorem peu_cat {j : Nat} {c : Str} {cpos pos : Pos} (l : List Nat) (hc : c = S l) (ho : OpR X (binaryOp .Add) r) (hb : PE X e tr) : PEU X (.BinOp (.Constant (.str c) j cpos) .Add e pos) (tOp r (tC (.str (S l))) tr) := by
  subst hc
  intro pins s σ H Q I h
  refine wpAny_BinOp (Calls.Constant_str ?_)
  have I1 : Inv X pins σ H { s with toks := s.toks + 1 } := I.tok _
  refine thnT (hb.run pins _ σ H _ I1 h) fun u s2 k2 ⟨y, H2, I2, r2, q2⟩ => ?_
  refine thnT (ho pins s2 σ H2 (.str (S l)) y (.str (S l) s.toks) u Q I2 ⟨_, rfl⟩ r2 q2) fun v s3 k3 q3 => ⟨?_, q3⟩
  have k2' : s.toks + 1 ≤ s2.toks := k2
  omega
theorem pet_of (h : PE X e te) : PET X e te := fun pins s σ H Q _ I q => h.run pins s σ H Q I q
theorem pa_consU (ha : PEU X e te) (hr : PAT X es ta) (hs : starEach (e :: es) X.env = (false, eval e X.env) :: starEach es X.env := by rfl) : PA X (e :: es) (tCons te ta) := by
  refine ⟨fun pos pins s σ H Q I h => ?_⟩
  rw [hs]
  show wpAny _ _ (spliced ((false, eval e X.env) :: backTo pos (starEach es X.env))) _ _ s
  refine Calls.spliced_cons (thn (ha pins s σ H _ I h) fun u s1 ⟨k1, x, H1, I1, r1, q1⟩ => ?_)
  exact thn (hr pos pins s1 σ H1 _ k1 I1 q1) fun us s2 ⟨xs, H2, I2, r2, q2⟩ => ⟨x :: xs, H2, I2, .cons r1 r2, q2⟩
/-- text.replace of two written texts -/
def rRep (y z : Str) : V → Hp → VK → Prop := fun x H Q => ∃ a, x = .str a ∧ a.length + (a.length + 1) * z.length ≤ 16777216 ∧ Q (.str (Txt.replace a y z)) H
def tRep2 (y z : Str) (te : TE) : TE := fun σ H Q => te σ H fun x H1 => rRep y z x H1 Q
theorem pet_rep {o : Expr} {y z : Str} (ly lz : List Nat) (ey : y = S ly) (ez : z = S lz) {j0 j1 : Nat} {c0 c1 apos pos : Pos} (hyz : (y == z) = false) (ho : PE X o te)
    (hst : starEach [.Constant (.str y) j0 c0, .Constant (.str z) j1 c1] X.env = [(false, eval (.Constant (.str y) j0 c0) X.env), (false, eval (.Constant (.str z) j1 c1) X.env)] := by rfl)
    (hbase : attributeBase o "replace" X.env (eval o X.env) = eval o X.env := by rfl) (hline : (apos.endLine == pos.line) = true := by rfl) :
    PET X (.Call (.Attribute o "replace" apos) [.Constant (.str y) j0 c0, .Constant (.str z) j1 c1] [] pos) (tRep2 (S ly) (S lz) te) := by
  subst ey
  subst ez
  intro pins s σ H Q h0 I h
  refine PySem.Call_method2 hbase hst hline (thnT (ho.run pins s σ H _ I h) fun v s1 k1 ⟨x, H1, I1, r1, a, ex, hb, q⟩ => ?_)
  subst ex
  obtain ⟨t, rfl⟩ := r1
  refine ⟨"str", _, F.plainAttrs_str, F.slot_str_replace, F.type_str_replace, typeIs_str _ _ _, (fun _ e => nomatch e), Calls.callWith_builtin rfl (Calls.evalArgs_plain (Calls.spliced_cons ?_))⟩
  refine Calls.Constant_str (Calls.spliced_cons (Calls.Constant_str (Calls.spliced_nil ?_)))
  exact PySem.SC.replace (by show s1.toks ≠ 0; omega) (by show s1.toks + 1 ≠ 0; omega) (by show s1.toks ≠ s1.toks + 1; omega) hyz hb fun t' k => ⟨.str _, H1, I1.tok k, ⟨t', rfl⟩, q⟩
end
theorem r_rep {ly lz : List Nat} {te : TE} {σ : L2.St} {H : Hp} {Q : VK} (h : te σ H fun x H1 => rRep (S ly) (S lz) x H1 Q) : tRep2 (S ly) (S lz) te σ H Q := h
theorem replS_mem {y z : List Nat} : ∀ (l : List Nat) (s : Nat), ∀ c ∈ PySem.StrLaws.replS y z s l, c ∈ z ∨ c ∈ l
  | [], s, c, h => by
    cases s <;> simp [PySem.StrLaws.replS] at h
  | d :: r, 0, c, h => by
    rw [PySem.StrLaws.replS] at h
    split at h
    · rcases List.mem_append.mp h with h | h
      · exact .inl h
      · exact (replS_mem r _ c h).imp id (List.mem_cons_of_mem _)
    · rcases List.mem_cons.mp h with rfl | h
      · exact .inr (List.mem_cons_self ..)
      · exact (replS_mem r _ c h).imp id (List.mem_cons_of_mem _)
  | d :: r, s + 1, c, h => by
    rw [PySem.StrLaws.replS] at h
    exact (replS_mem r _ c h).imp id (List.mem_cons_of_mem _)
theorem rep_txt {x y z : List Nat} (hy : 1 ≤ y.length) : ∃ m : List Nat, Txt.replace (S x) (S y) (S z) = S m ∧ m.length ≤ x.length + (x.length + 1) * z.length ∧ ∀ c ∈ m, c ∈ z ∨ c ∈ x := by
  refine ⟨(Txt.replace (S x) (S y) (S z)).cps.toList, S_of _, ?_, fun c hc => ?_⟩
  · have := TK.replace_len (S x) (S y) (S z)
    rw [S_len, S_len] at this
    exact this
  · rw [PySem.StrLaws.replace_list (by rw [S_len]; exact hy), S_codes, S_codes, S_codes] at hc
    exact replS_mem _ _ c hc
/-- a method of a class, where it stands, and its promise -/
structure OkMD (P : Program) (w : World) (K : PySem.W.Frag) (mg : Str → Option Value) (base : Heap) (CX : CXT) (k : Nat) (C m q : Str) (st : Stmt) (ps : List Str) (sp : Sp) : Prop where
  ex : ∃ fd, FunD K m q (defArgs st) (defBody st) (defScope st) [] [] (He.ma K (He.ga K C) m) fd ∧ Binds K fd ps [] ∧ FnOk P w K mg base CX k (He.ma K (He.ga K C) m) fd ps sp
theorem OkMD.m {P : Program} {w : World} {K : PySem.W.Frag} {mg : Str → Option Value} {base : Heap} {CX : CXT} {k : Nat} {C m q : Str} {st : Stmt} {ps : List Str} {sp : Sp} (F : OkMD P w K mg base CX k C m q st ps sp) : OkM P w K mg base CX k C m ps sp := by
  obtain ⟨fd, _, b, F⟩ := F.ex
  exact ⟨fd, b, F⟩
section
variable {X : Cx} {CX : CXT} {k : Nat} {ps ks : List Str} {sp : Sp} {E : XK} {C x q : Str} {p pos : Pos} {st : Stmt} {kws : List Keyword} {tk : TA} {g gV : {α : Type} → List α → List α → List α}
theorem pe_mkK0 {K : PySem.W.Frag} (hK : X.K = K) (M : Mk X.K (He.ga X.K C) (He.ma X.K (He.ga X.K C) "__init__")) (F : OkMD X.prog X.w X.K X.mg X.base CX k C "__init__" q st ps sp) (hr : Room (k + 1) X.A) (hg : Gl X x) (hm : X.mg x = some (.ref (He.ga X.K C)))
    (hb : ∀ f fd, FunD X.K "__init__" q (defArgs st) (defBody st) (defScope st) [] [] f fd → KBn X.K fd ps 1 ks (fun us ws => g us ws) (fun us ws => g us ws)) (hx : Passes CX X E) (hkw : PK X kws tk)
    (hall : (backToKw pos (keywordEach kws X.env)).all (·.1.isSome) = true := by rfl) (hks : (backToKw pos (keywordEach kws X.env)).filterMap (·.1) = ks := by rfl) (hdb : (x == ("__debug__" : Str)) = false := by decide)
    (hpl : ((backTo pos (starEach [] X.env)).any (·.1) || (backToKw pos (keywordEach kws X.env)).any (·.1.isNone)) = false := by rfl) :
    PE X (.Call (.Name x p) [] kws pos) (tMakeK (He.ga K C) 0 ks.length sp (fun us ws => g us ws) E tNil tk) := by
  subst hK
  obtain ⟨fd, D, b, F⟩ := F.ex
  exact pe_makeK0 M F hr hg hm (hb _ fd D) hx hkw hall hks hdb hpl
end
theorem r_makeK {C : Addr} {n m : Nat} {sp : Sp} {gV : List V → List V → List V} {E : XK} {t tk : TA} {σ : L2.St} {H : Hp} {Q : VK} (h : t σ H fun vs H1 => tk σ H1 fun zs H2 => vs.length = n ∧ zs.length = m ∧ ∀ x dx, H2 x = none → H2 dx = none → dx ≠ x →
    sp (gV (.ref x :: vs) zs) (upd (upd H2 dx (.own x)) x (.ins C dx [])) (fun v H3 => v = .non ∧ Q (.ref x) H3) E) : tMakeK C n m sp gV E t tk σ H Q := h
/-- nothing that is raised: the callee's way out is never taken -/
theorem passNone {P : Program} {w : World} {X : Cx} : Passes (L2.CX P w) X E0 := fun _ _ _ _ _ _ _ ⟨_, _, _, _, _, _, _, _, _, _, _, _, h⟩ => h.elim
end Tf

set_option Elab.async false
set_option linter.all false
set_option maxRecDepth 100000
set_option maxHeartbeats 2000000
/-! texts of laws with short names; the texts near them -/
namespace Tf
open PySem PySem.Spec PyProof.Rows L2 LamX
def Sh (l : List Nat) : Prop := l.length ≤ 6 ∧ ∀ c ∈ l, c < 128
structure ShortRs (rs : List Row3) : Prop where
  len : rs.length ≤ 100
  nm : ∀ r ∈ rs, Sh r.nm
  way : ∀ r ∈ rs, ∀ c, (c = 110 ∨ c = 102 ∨ c = 115) → Sh (r.way c)
theorem Nm.sh {l : List Nat} (h : Nm l) : Sh l := ⟨h.2.1, fun c hc => by have := h.2.2 c hc; omega⟩
theorem LawG.short {rs : List Row3} (h : LawG rs) : ShortRs rs := ⟨by have := h.len; omega, fun r hr => (h.nm r hr).sh, fun r hr c hc => (h.way hr hc).sh⟩
theorem ShortRs.line {rs : List Row3} (h : ShortRs rs) {l : List Nat} (hl : l ∈ linesF rs) : l.length ≤ 20 ∧ ∀ c ∈ l, c < 128 := by
  unfold linesF at hl
  rcases List.mem_cons.mp hl with rfl | hl
  · exact ⟨by decide, by decide⟩
  · obtain ⟨r, hr, hl⟩ := List.mem_flatMap.mp hl
    have hn := h.nm r hr
    have on : ∀ c, (c = 110 ∨ c = 102 ∨ c = 115) → (onL c (r.way c)).length ≤ 20 ∧ ∀ x ∈ onL c (r.way c), x < 128 := fun c hc => by
      obtain ⟨w1, w2⟩ := h.way r hr c hc
      refine ⟨by unfold onL; simp; omega, fun x hx => ?_⟩
      unfold onL at hx
      simp only [List.mem_append, List.mem_cons, List.not_mem_nil, or_false] at hx
      rcases hx with (((rfl | rfl | rfl) | rfl) | rfl) | hx
      · decide
      · decide
      · decide
      · omega
      · decide
      · exact w2 x hx
    unfold rowL at hl
    simp only [List.mem_cons, List.not_mem_nil, or_false] at hl
    rcases hl with rfl | rfl | rfl | rfl
    · unfold stL
      refine ⟨by have := hn.1; cases r.oft <;> simp <;> omega, fun x hx => ?_⟩
      rcases List.mem_append.mp hx with hx | hx
      · rcases List.mem_append.mp hx with hx | hx
        · exact (by decide : ∀ x ∈ ([115, 116, 97, 116, 101, 32] : List Nat), x < 128) x hx
        · exact hn.2 x hx
      · cases ho : r.oft
        · rw [ho] at hx; simp at hx
        · rw [ho] at hx
          simp only [if_pos] at hx
          exact (by decide : ∀ x ∈ ([32, 111, 102, 116, 101, 110] : List Nat), x < 128) x hx
    · exact on 110 (.inl rfl)
    · exact on 102 (.inr (.inl rfl))
    · exact on 115 (.inr (.inr rfl))
theorem ShortRs.text {rs : List Row3} (h : ShortRs rs) : ∃ m, textF rs = S m ∧ m.length ≤ 21 * (1 + 4 * rs.length) ∧ ∀ c ∈ m, c < 128 := by
  refine ⟨TL.joinL [10] (linesF rs), join_SP _ _, ?_, joinL_asc (by decide) fun l hl => (h.line hl).2⟩
  have := joinL_len 10 (linesF rs) fun l hl => (h.line hl).1
  rw [linesF_len] at this
  exact this
/-- a list of texts by what is known of each item -/
theorem texts_of {P : List Nat → Prop} : ∀ {acc : List V}, (∀ v ∈ acc, ∃ l, v = .str (S l) ∧ P l) → ∃ ls : List (List Nat), acc = ls.map (fun l => V.str (S l)) ∧ ∀ l ∈ ls, P l
  | [], _ => ⟨[], rfl, fun _ h => nomatch h⟩
  | v :: r, h => by
    obtain ⟨l, rfl, hl⟩ := h v (List.mem_cons_self ..)
    obtain ⟨ls, rfl, hls⟩ := texts_of fun u hu => h u (List.mem_cons_of_mem _ hu)
    exact ⟨l :: ls, rfl, fun x hx => (List.mem_cons.mp hx).elim (fun e => e ▸ hl) (hls x)⟩
/-! ### values near texts -/
/-- data that is a text only if it is a short one of plain letters -/
def TxtV (K : PySem.W.Frag) (a : Addr) (X : Hp) (v : V) : Prop := ∃ d, Dat K a X d v ∧ ∀ l, d = .str (S l) → l.length ≤ 20000 ∧ ∀ c ∈ l, c < 128
theorem TxtV.same {K : PySem.W.Frag} {a : Addr} {X Y : Hp} {v : V} (e : Same X Y) (h : TxtV K a X v) : TxtV K a Y v := by
  obtain ⟨d, h1, h2⟩ := h
  exact ⟨d, dat_same e h1, h2⟩
theorem TxtV.but {K : PySem.W.Frag} {a : Addr} {c : Int} {X Y : Hp} {v : V} (e : But a X Y) (P : PotAt X a c) (h : TxtV K a X v) : TxtV K a Y v := by
  obtain ⟨d, h1, h2⟩ := h
  exact ⟨d, dat_but e P h1, h2⟩
theorem TxtV.txt {K : PySem.W.Frag} {a : Addr} {X : Hp} {l : List Nat} (h : l.length ≤ 20000) (ha : ∀ c ∈ l, c < 128) : TxtV K a X (.str (S l)) := ⟨.str (S l), dat_W ha, fun m e => by obtain rfl : l = m := S_inj (PyData.str.inj e); exact ⟨h, ha⟩⟩
theorem TxtV.non {K : PySem.W.Frag} {a : Addr} {X : Hp} : TxtV K a X .non := ⟨.none, dat_non, fun _ e => nomatch e⟩
theorem TxtV.int {K : PySem.W.Frag} {a : Addr} {X : Hp} {i : Int} (h : i.natAbs.log2 < 1920) : TxtV K a X (.int i) := ⟨.int i, dat_int h, fun _ e => nomatch e⟩
theorem TxtV.one {K : PySem.W.Frag} {a p : Addr} {X : Hp} {l : List Nat} (n : p ≠ a) (hp : X p = some (.lst [.str (S l)])) (ha : ∀ c ∈ l, c < 128) : TxtV K a X (.ref p) := ⟨.list [.str (S l)], dat_lst n (SqL.of hp) (datL_cons (dat_W ha) datL_nil), fun _ e => nomatch e⟩
def txA : PyData → Bool
  | .str z => decide (z.length ≤ 20000) && z.cps.toList.all fun c => decide (c < 128)
  | _ => true
theorem TxtV.odd {K : PySem.W.Frag} {a : Addr} {X : Hp} {v : V} {d : PyData} (h : Dat K a X d v) (ha : txA d = true) : TxtV K a X v := ⟨d, h, fun l e => by
  subst e
  simp only [txA, Bool.and_eq_true, decide_eq_true_eq, List.all_eq_true, S_codes, S_len] at ha
  exact ha⟩
theorem r_pcons {tk tv : TE} {r : List (TE × TE)} {σ : L2.St} {H : Hp} {Q : List (V × V) → Hp → Prop} (h : tk σ H fun x H1 => tv σ H1 fun y H2 => tPairs r σ H2 fun ps H3 => Q ((x, y) :: ps) H3) : tPairs ((tk, tv) :: r) σ H Q := h
theorem r_pnil {σ : L2.St} {H : Hp} {Q : List (V × V) → Hp → Prop} (h : Q [] H) : tPairs [] σ H Q := h
/-! ### a great law's rows -/
def grR (nm0 nml : List Nat) (i : Nat) (nm : List Nat) : Row3 := ⟨nm, decide (i = 3), fun c => if c = 110 then nm else if c = 102 then nm0 else nml⟩
theorem grR_wK (nm0 nml nm : List Nat) (i : Nat) : wK (grR nm0 nml i nm).way = [(.inr (S [110]), .str (S nm)), (.inr (S [102]), .str (S nm0)), (.inr (S [115]), .str (S nml))] := rfl
theorem grR_sh {nm0 nml nm : List Nat} {i : Nat} (h0 : Sh nm0) (hl : Sh nml) (h : Sh nm) (c : Nat) : Sh ((grR nm0 nml i nm).way c) := by
  unfold grR
  show Sh (if c = 110 then nm else if c = 102 then nm0 else nml)
  split
  · exact h
  · split
    · exact h0
    · exact hl
/-! ### one number alone -/
theorem BadNo.not_good {ls : List (List Nat)} {n : Nat} (h : BadNo ls n) (g : GoodAt ls) : False := by
  cases h with
  | a i hi ok hb => have := g.a i hi; rw [hb] at this; cases this
  | b ok hb => exact hb.elim g.b fun h => h g.c
  | c i ok h1 h2 hi tok h0 h4 hn => exact hn (g.d i hi h0 h4)
theorem BadNo.uniq {ls : List (List Nat)} {n m : Nat} (h : BadNo ls n) (g : BadNo ls m) : n = m := by
  cases h with
  | a i hi ok hb =>
    cases g with
    | a j hj ok2 hb2 =>
      rcases Nat.lt_trichotomy i j with c | c | c
      · have := ok2 i c; rw [hb] at this; cases this
      · rw [c]
      · have := ok j c; rw [hb2] at this; cases this
    | b ok2 hb2 => have := ok2 i hi; rw [hb] at this; cases this
    | c j ok2 _ _ _ _ _ _ _ => have := ok2 i hi; rw [hb] at this; cases this
  | b ok hb =>
    cases g with
    | a j hj ok2 hb2 => have := ok j hj; rw [hb2] at this; cases this
    | b ok2 hb2 => rfl
    | c j ok2 h1 h2 _ _ _ _ _ => exact (hb.elim h1 fun z => z h2).elim
  | c i ok h1 h2 hi tok h0 h4 hn =>
    cases g with
    | a j hj ok2 hb2 => have := ok j hj; rw [hb2] at this; cases this
    | b ok2 hb2 => exact (hb2.elim h1 fun z => z h2).elim
    | c j ok2 _ _ hj tok2 j0 j4 jn =>
      rcases Nat.lt_trichotomy i j with c | c | c
      · exact (hn (tok2 i c h0 h4)).elim
      · rw [c]
      · exact (jn (tok j c j0 j4)).elim
/-- which number is due for such a value -/
def BadV (d : PyData) (n : Nat) : Prop := (datTy d ≠ "str" ∧ n = 0) ∨ ∃ l, d = .str (S l) ∧ BadNo (cutL 10 l) n
theorem BadV.uniq {d : PyData} {n m : Nat} (h : BadV d n) (g : BadV d m) : n = m := by
  rcases h with ⟨h1, rfl⟩ | ⟨l, rfl, h⟩ <;> rcases g with ⟨g1, rfl⟩ | ⟨k, e, g⟩
  · rfl
  · subst e; exact absurd rfl h1
  · exact absurd rfl g1
  · obtain rfl : l = k := S_inj (PyData.str.inj e)
    exact h.uniq g
theorem BadV.not_good {l : List Nat} {n : Nat} (h : BadV (.str (S l)) n) (g : GoodAt (cutL 10 l)) : False := by
  rcases h with ⟨h1, _⟩ | ⟨k, e, h⟩
  · exact h1 rfl
  · obtain rfl : l = k := S_inj (PyData.str.inj e)
    exact h.not_good g
/-! ### a law's own text can stand -/
section
variable {rs : List Row3}
theorem cut_stL {r : Row3} (h : Nm r.nm) : cutL 32 (stL r) = stW r := map_S_inj ((split_cut (by decide) (stL r)).symm.trans (stL_split h))
theorem cut_onL {c : Nat} {w : List Nat} (hc : c = 110 ∨ c = 102 ∨ c = 115) (h : Nm w) : cutL 32 (onL c w) = onW c w := map_S_inj ((split_cut (by decide) (onL c w)).symm.trans (onL_split hc h))
theorem cut_text (h : LawG rs) {l : List Nat} (e : textF rs = S l) : cutL 10 l = linesF rs := map_S_inj ((split_cut (by decide) l).symm.trans (e ▸ text_split h))
theorem ln_head {k : Nat} {r : Row3} (e : rs[k]? = some r) : lnAt (linesF rs) (4 * k + 1) = stL r := lnAt_get (lines_head e)
theorem nms_lines (h : LawG rs) {n : Nat} (hn : (n + 2) / 4 ≤ rs.length) : nmsAt (linesF rs) n = (rs.take ((n + 2) / 4)).map (·.nm) := by
  unfold nmsAt
  refine List.ext_getElem? fun k => ?_
  by_cases hk : k < (n + 2) / 4
  · have er : rs[k]? = some rs[k] := List.getElem?_eq_getElem (by omega)
    rw [List.getElem?_map, List.getElem?_range (i := k) hk, List.getElem?_map, List.getElem?_take, if_pos hk, er]
    show some ((cutL 32 (lnAt (linesF rs) (4 * k + 1))).getD 1 []) = some rs[k].nm
    rw [ln_head er, cut_stL (h.nm _ (List.getElem_mem _)), List.getD_eq_getElem?_getD, stW_1]
    rfl
  · rw [List.getElem?_eq_none (by simp; omega), List.getElem?_eq_none (by simp; omega)]
theorem good_of (h : LawG rs) : GoodAt (linesF rs) := by
  have L := linesF_len (rs := rs)
  have hl := h.len
  have hall : nmsAt (linesF rs) (linesF rs).length = rs.map (·.nm) := by
    rw [nms_lines h (by omega), show ((linesF rs).length + 2) / 4 = rs.length by omega, List.take_length]
  have wl : ∀ j, j < (linesF rs).length → 0 < j → j % 4 ≠ 1 → ∃ r c, r ∈ rs ∧ (c = 110 ∨ c = 102 ∨ c = 115) ∧ ([110, 102, 115] : List Nat)[(j - 2) % 4]? = some c ∧ lnAt (linesF rs) j = onL c (r.way c) := fun j hj h0 h4 => by
    have hi : (j - 2) % 4 < 3 := by omega
    obtain ⟨c, ec⟩ : ∃ c, ([110, 102, 115] : List Nat)[(j - 2) % 4]? = some c := ⟨_, List.getElem?_eq_getElem hi⟩
    obtain ⟨r, er⟩ : ∃ r, rs[(j - 2) / 4]? = some r := ⟨_, List.getElem?_eq_getElem (by omega)⟩
    refine ⟨r, c, List.mem_of_getElem? er, by have := List.mem_of_getElem? ec; simpa using this, ec, ?_⟩
    have := lnAt_get (lines_on er ec)
    rw [show 4 * ((j - 2) / 4) + 1 + (1 + (j - 2) % 4) = j by omega] at this
    exact this
  refine ⟨fun j hj => ?_, fun z => ?_, by rw [hall, List.length_map]; exact L, fun j hj h0 h4 => ?_⟩
  · by_cases h0 : j = 0
    · subst h0
      unfold lnB
      rw [if_pos rfl]
      exact decide_eq_true rfl
    by_cases h4 : j % 4 = 1
    · obtain ⟨k, rfl⟩ : ∃ k, j = 4 * k + 1 := ⟨j / 4, by omega⟩
      have hk : k < rs.length := by omega
      have er : rs[k]? = some rs[k] := List.getElem?_eq_getElem hk
      have hn := h.nm _ (List.getElem_mem hk)
      unfold lnB
      rw [if_neg h0, if_pos h4, ln_head er, cut_stL hn, stB_of hn, nms_lines h (by omega), show (4 * k + 1 + 2) / 4 = k by omega, List.getD_eq_getElem?_getD, stW_1]
      simp only [Option.getD_some, Bool.true_and, Bool.and_eq_true, Bool.not_eq_true', decide_eq_false_iff_not, decide_eq_true_eq]
      exact ⟨nm_not h.u er, by rw [List.length_map, List.length_take]; omega⟩
    · obtain ⟨r, c, hr, hc, ec, e⟩ := wl j hj (by omega) h4
      have hw := h.way hr hc
      unfold lnB
      rw [if_neg h0, if_neg h4, e, cut_onL hc hw, List.getD_eq_getElem?_getD, ec]
      exact onB_of hw
  · rw [hall] at z
    exact h.ne (List.map_eq_nil_iff.mp z)
  · obtain ⟨r, c, hr, hc, ec, e⟩ := wl j hj h0 h4
    rw [e, last_onL hc (h.way hr hc), hall]
    exact h.cl r hr c hc
theorem text_rows (h : LawG rs) {l : List Nat} (e : textF rs = S l) : GoodAt (cutL 10 l) ∧ textF (rowsOf (cutL 10 l)) = textF rs := by
  have hg := good_of h
  rw [cut_text h e]
  refine ⟨hg, ?_⟩
  unfold textF
  rw [← good_lines hg]
end
theorem TxtV.extN {K : PySem.W.Frag} {a : Addr} {X Y : Hp} {v : V} (e : ExtN X Y) (h : TxtV K a X v) : TxtV K a Y v := by
  obtain ⟨d, h1, h2⟩ := h
  exact ⟨d, dat_extN e h1, h2⟩
end Tf

set_option Elab.async false
set_option linter.all false
set_option maxRecDepth 100000
set_option maxHeartbeats 4000000
set_option pp.maxSteps 400
set_option exponentiation.threshold 4000
local macro_rules | `(tactic| walk_at "rr") => `(tactic| with_reducible first
  | refine Tf.r_dget ?_ | refine Tf.r_par3 ?_ | refine Tf.r_lock ?_ | refine Tf.r_dget1 ?_ | refine Tf.r_keys ?_ | refine Tf.r_make ?_ | refine Tf.r_din ?_ | refine Tf.r_dnotin ?_ | refine Tf.r_dput ?_ | refine Tf.r_dc ?_ | refine Tf.r_rng3 ?_ | refine Tf.r_enX ?_ | refine Tf.r_slS3 ?_ | refine Tf.r_sfld ?_ | refine Tf.r_fld ?_ | refine Tf.r_iEnum ?_ | refine Tf.r_makeK ?_ | refine Tf.r_rep ?_ | refine Tf.r_revL ?_ | refine Tf.r_pcons ?_ | refine Tf.r_pnil ?_ | refine Tf.r_seq ?_ | refine Tf.r_asg ?_ | refine Tf.r_name ?_ | refine Tf.r_ret ?_ | refine Tf.r_drop ?_ | refine Tf.r_next ?_ | refine Tf.r_ifS ?_ | refine Tf.r_op ?_ | refine Tf.r_un ?_
  | refine Tf.r_c ?_ | refine Tf.r_I0 ?_ | refine Tf.r_U ?_ | refine Tf.r_cb ?_ | refine Tf.r_cons ?_ | refine Tf.r_nil ?_ | refine Tf.r_call ?_ | refine Tf.r_callN ?_ | refine Tf.r_test ?_ | refine Tf.r_B ?_
  | refine Tf.r_k ?_ | refine Tf.r_and ?_ | refine Tf.r_or ?_ | refine Tf.r_not ?_ | refine Tf.r_andV ?_ | refine Tf.r_orV ?_ | refine Tf.r_notV ?_ | refine Tf.r_if ?_ | refine Tf.r_chain ?_ | refine Tf.r_tup ?_
  | refine Tf.r_lst ?_ | refine Tf.r_par ?_ | refine Tf.r_sl ?_ | refine Tf.r_nopart ?_ | refine Tf.r_part ?_ | refine Tf.r_i ?_ | refine Tf.r_int ?_ | refine Tf.r_intb ?_ | refine Tf.r_isT ?_ | refine Tf.r_noT ?_ | refine Tf.r_isN ?_ | refine Tf.r_notN ?_ | refine Tf.r_inC ?_ | refine Tf.r_abs ?_ | refine Tf.r_max2 ?_ | refine Tf.r_min2 ?_
  | refine Tf.r_for ?_ | refine Tf.r_iStr ?_ | refine Tf.r_iList ?_ | refine Tf.r_iTup ?_ | refine Tf.r_tM1 ?_ | refine Tf.r_lc ?_ | refine Tf.r_yes ?_ | refine Tf.r_revS ?_ | refine Tf.r_notB ?_ | refine Tf.r_isB ?_ | refine Tf.r_iRng1 ?_ | refine Tf.r_iZip ?_ | refine Tf.r_iRng2 ?_ | refine Tf.r_then ?_ | refine Tf.r_gSub ?_ | refine Tf.r_lstRg ?_ | refine Tf.r_rg1 ?_ | refine Tf.r_gCons ?_ | refine Tf.r_gNil ?_ | refine Tf.r_nt ?_ | refine Tf.r_nf ?_ | refine Tf.r_true ?_ | refine Tf.r_false ?_)
local macro_rules | `(tactic| walk_at "rv") => `(tactic| ((with_reducible refine Tf.r_var (v := ?v) ?h ?_); (case' h => exact rfl)))
local macro_rules | `(tactic| walk_at "re") => `(tactic| first
  | ((with_reducible refine Tf.r_eq ?h ?_); (case' h => exact rfl)) | ((with_reducible refine Tf.r_ne ?h ?_); (case' h => exact rfl)))
local macro_rules | `(tactic| walk_at "ri") => `(tactic| first
  | ((with_reducible refine Tf.r_isiS (b := false) ?h ?_); (case' h => (show L2.kitB _ _ = some _; decide +kernel)))
  | ((with_reducible refine Tf.r_isiS (b := true) ?h ?_); (case' h => (show L2.kitB _ _ = some _; decide +kernel))))
local macro_rules | `(tactic| walk_at "r") => `(tactic| repeat (first | walk_at "rr" | walk_at "rv" | walk_at "re" | walk_at "ri"))
local macro_rules | `(tactic| walk_at "rs") => `(tactic| repeat (with_reducible first | refine Tf.r_seq ?_ | refine Tf.r_asg ?_ | refine Tf.r_name ?_ | refine Tf.r_next ?_))
local macro_rules | `(tactic| walk_at "rq") => `(tactic| with_reducible refine Tf.r_seq ?_)

namespace K00
open PySem PySem.Spec PyProof.Rows L2 Tf LamX
def top (i : Nat) : Stmt := PySem.Challenge.pw_twofarplayers_k00_whole_texts_of_laws_an.main.body.getD i (.Pass ⟨0, 0, 0, 0⟩)
def tf : List He.Defn := [("_law_is_right_text", none)]
theorem mem_Lis_right_text : (("_law_is_right_text", none) : He.Defn) ∈ tf := List.mem_cons_self
abbrev s_init : Stmt := clsMeth (top 1) 0
theorem sc_init : FnScope ["self", "value"] ["self", "value"] (defScope s_init) := ⟨rfl, rfl, rfl, by decide +kernel, rfl, by decide +kernel, by decide +kernel⟩
abbrev s_Lpot : Stmt := top 20
theorem sc_Lpot : FnScope ["script", "at", "cell", "own", "small"] ["script", "at"] (defScope s_Lpot) := ⟨rfl, rfl, rfl, by decide +kernel, rfl, by decide +kernel, by decide +kernel⟩
abbrev s_Ltake : Stmt := top 21
theorem sc_Ltake : FnScope ["pot", "upto", "prime", "blend", "digit"] ["pot", "upto"] (defScope s_Ltake) := ⟨rfl, rfl, rfl, by decide +kernel, rfl, by decide +kernel, by decide +kernel⟩
abbrev s_Lof : Stmt := top 22
theorem sc_Lof : FnScope ["pot", "some"] ["pot", "some"] (defScope s_Lof) := ⟨rfl, rfl, rfl, by decide +kernel, rfl, by decide +kernel, by decide +kernel⟩
abbrev s_Lcells : Stmt := top 23
theorem sc_Lcells : FnScope ["script", "most"] ["script", "most"] (defScope s_Lcells) := ⟨rfl, rfl, rfl, by decide +kernel, rfl, by decide +kernel, by decide +kernel⟩
abbrev s_is_name : Stmt := top 7
theorem sc_is_name : FnScope ["value", "sign"] ["value"] (defScope s_is_name) := ⟨rfl, rfl, rfl, by decide +kernel, rfl, by decide +kernel, by decide +kernel⟩
abbrev s_is_head : Stmt := top 13
theorem sc_is_head : FnScope ["at"] ["at"] (defScope s_is_head) := ⟨rfl, rfl, rfl, by decide +kernel, rfl, by decide +kernel, by decide +kernel⟩
abbrev s_last_word : Stmt := top 17
theorem sc_last_word : FnScope ["line"] ["line"] (defScope s_last_word) := ⟨rfl, rfl, rfl, by decide +kernel, rfl, by decide +kernel, by decide +kernel⟩
abbrev s_is_state : Stmt := top 15
theorem sc_is_state : FnScope ["words"] ["words"] (defScope s_is_state) := ⟨rfl, rfl, rfl, by decide +kernel, rfl, by decide +kernel, by decide +kernel⟩
abbrev s_is_way : Stmt := top 16
theorem sc_is_way : FnScope ["words", "fate"] ["words", "fate"] (defScope s_is_way) := ⟨rfl, rfl, rfl, by decide +kernel, rfl, by decide +kernel, by decide +kernel⟩
abbrev s_can_stand : Stmt := top 14
theorem sc_can_stand : FnScope ["at", "line", "names", "words"] ["at", "line", "names"] (defScope s_can_stand) := ⟨rfl, rfl, rfl, by decide +kernel, rfl, by decide +kernel, by decide +kernel⟩
abbrev s_standing_lines : Stmt := top 12
theorem sc_standing_lines : FnScope ["text", "lines", "names", "at", "line"] ["text"] (defScope s_standing_lines) := ⟨rfl, rfl, rfl, by decide +kernel, rfl, by decide +kernel, by decide +kernel⟩
abbrev s_steps_of : Stmt := top 18
theorem sc_steps_of : FnScope ["lines", "steps", "at", "name", "k", "fate"] ["lines"] (defScope s_steps_of) := ⟨rfl, rfl, rfl, by decide +kernel, rfl, by decide +kernel, by decide +kernel⟩
abbrev s_Law_init : Stmt := clsMeth (top 11) 0
theorem sc_Law_init : FnScope ["self", "text", "lines", "heads", "line", "words"] ["self", "text"] (defScope s_Law_init) := ⟨rfl, rfl, rfl, by decide +kernel, rfl, by decide +kernel, by decide +kernel⟩
abbrev s_Llaw_is_name : Stmt := top 25
theorem sc_Llaw_is_name : FnScope ["value", "sign"] ["value"] (defScope s_Llaw_is_name) := ⟨rfl, rfl, rfl, by decide +kernel, rfl, by decide +kernel, by decide +kernel⟩
abbrev s_Lbent_line : Stmt := top 30
theorem sc_Lbent_line : FnScope ["pot", "line", "at", "some", "words", "way"] ["pot", "line"] (defScope s_Lbent_line) := ⟨rfl, rfl, rfl, by decide +kernel, rfl, by decide +kernel, by decide +kernel⟩
abbrev s_Llaw_read : Stmt := top 27
theorem sc_Llaw_read : FnScope ["text", "rows", "found", "names", "at", "words", "letter", "line", "is_form", "row", "name", "is_often", "ways"] ["text"] (defScope s_Llaw_read) := ⟨rfl, rfl, rfl, by decide +kernel, rfl, by decide +kernel, by decide +kernel⟩
abbrev s_Lbent_text : Stmt := top 31
theorem sc_Lbent_text : FnScope ["pot", "text", "at", "lines", "way", "more"] ["pot", "text"] (defScope s_Lbent_text) := ⟨rfl, rfl, rfl, by decide +kernel, rfl, by decide +kernel, by decide +kernel⟩
abbrev s_Law___eq__ : Stmt := clsMeth (top 11) 1
theorem sc_Law___eq__ : FnScope ["self", "other"] ["self", "other"] (defScope s_Law___eq__) := ⟨rfl, rfl, rfl, by decide +kernel, rfl, by decide +kernel, by decide +kernel⟩
abbrev s_Law___len__ : Stmt := clsMeth (top 11) 2
theorem sc_Law___len__ : FnScope ["self"] ["self"] (defScope s_Law___len__) := ⟨rfl, rfl, rfl, by decide +kernel, rfl, by decide +kernel, by decide +kernel⟩
abbrev s_Llaw_text : Stmt := top 26
theorem sc_Llaw_text : FnScope ["own", "rows", "name", "is_often", "ways", "letter"] ["own"] (defScope s_Llaw_text) := ⟨rfl, rfl, rfl, by decide +kernel, rfl, by decide +kernel, by decide +kernel⟩
abbrev s_Lodd : Stmt := top 29
theorem sc_Lodd : FnScope ["pot", "some"] ["pot"] (defScope s_Lodd) := ⟨rfl, rfl, rfl, by decide +kernel, rfl, by decide +kernel, by decide +kernel⟩
abbrev s_Llaw_drawn : Stmt := top 28
theorem sc_Llaw_drawn : FnScope ["pot", "most", "names", "found", "name", "ways", "letter"] ["pot", "most"] (defScope s_Llaw_drawn) := ⟨rfl, rfl, rfl, by decide +kernel, rfl, by decide +kernel, by decide +kernel⟩
abbrev s_Lgreat : Stmt := top 33
theorem sc_Lgreat : FnScope ["many", "names", "at", "name"] ["many"] (defScope s_Lgreat) := ⟨rfl, rfl, rfl, by decide +kernel, rfl, by decide +kernel, by decide +kernel⟩
abbrev s_Ltexts : Stmt := top 34
theorem sc_Ltexts : FnScope ["pot", "text", "found", "lap"] ["pot"] (defScope s_Ltexts) := ⟨rfl, rfl, rfl, by decide +kernel, rfl, by decide +kernel, by decide +kernel⟩
abbrev s_Lsame : Stmt := top 32
theorem sc_Lsame : FnScope ["told", "due", "is_fit", "one", "other"] ["told", "due"] (defScope s_Lsame) := ⟨rfl, rfl, rfl, by decide +kernel, rfl, by decide +kernel, by decide +kernel⟩
abbrev s_Lheard : Stmt := top 24
theorem sc_Lheard : FnScope ["call", "error", "caught", "given"] ["call"] (defScope s_Lheard) := ⟨rfl, rfl, rfl, by decide +kernel, rfl, by decide +kernel, by decide +kernel⟩
abbrev s_Lis_right_text : Stmt := top 35
theorem sc_Lis_right_text : FnScope ["text", "often", "own", "number", "caught", "rule", "name", "is_often", "ways", "row"] ["text"] (defScope s_Lis_right_text) := ⟨rfl, rfl, rfl, by decide +kernel, rfl, by decide +kernel, by decide +kernel⟩
abbrev s_Lright : Stmt := top 36
theorem sc_Lright : FnScope ["pot", "texts", "one", "other", "lap", "told", "text"] ["pot"] (defScope s_Lright) := ⟨rfl, rfl, rfl, by decide +kernel, rfl, by decide +kernel, by decide +kernel⟩
abbrev s_law : Stmt := top 37
theorem sc_law : FnScope ["script", "place"] ["script"] (defScope s_law) := ⟨rfl, rfl, rfl, by decide +kernel, rfl, by decide +kernel, by decide +kernel⟩
structure Txt (K : PySem.W.Frag) (mg : Str → Option Value) : Prop where
  d_Lpot : ∃ fd, FnP K "_law_pot" s_Lpot (He.ga K "_law_pot") fd
  g__law_pot : mg "_law_pot" = some (.ref (He.ga K "_law_pot"))
  d_Ltake : ∃ fd, FnP K "_law_take" s_Ltake (He.ga K "_law_take") fd
  g__law_take : mg "_law_take" = some (.ref (He.ga K "_law_take"))
  d_Lof : ∃ fd, FnP K "_law_of" s_Lof (He.ga K "_law_of") fd
  g__law_of : mg "_law_of" = some (.ref (He.ga K "_law_of"))
  d_Lcells : ∃ fd, FnP K "_law_cells" s_Lcells (He.ga K "_law_cells") fd
  g__law_cells : mg "_law_cells" = some (.ref (He.ga K "_law_cells"))
  d_is_name : ∃ fd, FnP K "is_name" s_is_name (He.ga K "is_name") fd
  g_is_name : mg "is_name" = some (.ref (He.ga K "is_name"))
  d_is_head : ∃ fd, FnP K "is_head" s_is_head (He.ga K "is_head") fd
  g_is_head : mg "is_head" = some (.ref (He.ga K "is_head"))
  d_last_word : ∃ fd, FnP K "last_word" s_last_word (He.ga K "last_word") fd
  g_last_word : mg "last_word" = some (.ref (He.ga K "last_word"))
  d_is_state : ∃ fd, FnP K "is_state" s_is_state (He.ga K "is_state") fd
  g_is_state : mg "is_state" = some (.ref (He.ga K "is_state"))
  d_is_way : ∃ fd, FnP K "is_way" s_is_way (He.ga K "is_way") fd
  g_is_way : mg "is_way" = some (.ref (He.ga K "is_way"))
  d_can_stand : ∃ fd, FnP K "can_stand" s_can_stand (He.ga K "can_stand") fd
  g_can_stand : mg "can_stand" = some (.ref (He.ga K "can_stand"))
  d_standing_lines : ∃ fd, FnP K "standing_lines" s_standing_lines (He.ga K "standing_lines") fd
  g_standing_lines : mg "standing_lines" = some (.ref (He.ga K "standing_lines"))
  d_steps_of : ∃ fd, FnP K "steps_of" s_steps_of (He.ga K "steps_of") fd
  g_steps_of : mg "steps_of" = some (.ref (He.ga K "steps_of"))
  d_Law_init : ∃ fd, FunD K "__init__" "Law.__init__" (defArgs s_Law_init) (defBody s_Law_init) (defScope s_Law_init) [] [] (He.ma K (He.ga K "Law") "__init__") fd
  d_Llaw_is_name : ∃ fd, FnP K "_law_law_is_name" s_Llaw_is_name (He.ga K "_law_law_is_name") fd
  g__law_law_is_name : mg "_law_law_is_name" = some (.ref (He.ga K "_law_law_is_name"))
  d_Lbent_line : ∃ fd, FnP K "_law_bent_line" s_Lbent_line (He.ga K "_law_bent_line") fd
  g__law_bent_line : mg "_law_bent_line" = some (.ref (He.ga K "_law_bent_line"))
  d_Llaw_read : ∃ fd, FnP K "_law_law_read" s_Llaw_read (He.ga K "_law_law_read") fd
  g__law_law_read : mg "_law_law_read" = some (.ref (He.ga K "_law_law_read"))
  d_Lbent_text : ∃ fd, FnP K "_law_bent_text" s_Lbent_text (He.ga K "_law_bent_text") fd
  g__law_bent_text : mg "_law_bent_text" = some (.ref (He.ga K "_law_bent_text"))
  d_Law___eq__ : ∃ fd, FunD K "__eq__" "Law.__eq__" (defArgs s_Law___eq__) (defBody s_Law___eq__) (defScope s_Law___eq__) [] [] (He.ma K (He.ga K "Law") "__eq__") fd
  d_Law___len__ : ∃ fd, FunD K "__len__" "Law.__len__" (defArgs s_Law___len__) (defBody s_Law___len__) (defScope s_Law___len__) [] [] (He.ma K (He.ga K "Law") "__len__") fd
  d_Llaw_text : ∃ fd, FnP K "_law_law_text" s_Llaw_text (He.ga K "_law_law_text") fd
  g__law_law_text : mg "_law_law_text" = some (.ref (He.ga K "_law_law_text"))
  d_Lodd : ∃ fd, FnP K "_law_odd" s_Lodd (He.ga K "_law_odd") fd
  g__law_odd : mg "_law_odd" = some (.ref (He.ga K "_law_odd"))
  d_Llaw_drawn : ∃ fd, FnP K "_law_law_drawn" s_Llaw_drawn (He.ga K "_law_law_drawn") fd
  g__law_law_drawn : mg "_law_law_drawn" = some (.ref (He.ga K "_law_law_drawn"))
  d_Lgreat : ∃ fd, FnP K "_law_great" s_Lgreat (He.ga K "_law_great") fd
  g__law_great : mg "_law_great" = some (.ref (He.ga K "_law_great"))
  d_Ltexts : ∃ fd, FnP K "_law_texts" s_Ltexts (He.ga K "_law_texts") fd
  g__law_texts : mg "_law_texts" = some (.ref (He.ga K "_law_texts"))
  d_Lsame : ∃ fd, FnP K "_law_same" s_Lsame (He.ga K "_law_same") fd
  g__law_same : mg "_law_same" = some (.ref (He.ga K "_law_same"))
  d_Lheard : ∃ fd, FnP K "_law_heard" s_Lheard (He.ga K "_law_heard") fd
  g__law_heard : mg "_law_heard" = some (.ref (He.ga K "_law_heard"))
  d_Lis_right_text : ∃ fd, FnP K "_law_is_right_text" s_Lis_right_text (He.ga K "_law_is_right_text") fd
  g__law_is_right_text : mg "_law_is_right_text" = some (.ref (He.ga K "_law_is_right_text"))
  d_Lright : ∃ fd, FnP K "_law_right" s_Lright (He.ga K "_law_right") fd
  g__law_right : mg "_law_right" = some (.ref (He.ga K "_law_right"))
  d_law : ∃ fd, FnP K "law" s_law (He.ga K "law") fd
  g_law : mg "law" = some (.ref (He.ga K "law"))
  c_FATES : ∃ t, mg "FATES" = some (.str "nfs" t)
  c_LETTERS : ∃ t, mg "LETTERS" = some (.str "abcdefghijklmnopqrstuvwxyz" t)
  c_MOST_LETTERS : ∃ t, mg "MOST_LETTERS" = some (.int 6 t)
  c_MOST_STATES : ∃ t, mg "MOST_STATES" = some (.int 64 t)
  c_LINES_OF_A_STATE : ∃ t, mg "LINES_OF_A_STATE" = some (.int 4 t)
  u_Lis_right_text : ∀ r ∈ tabs K tf, r.1 = (He.cT K ("_law_is_right_text", none)).2 → r.2 = (("_law_is_right_text" : Str) ++ ".<locals>.") ++ "<lambda>"
  d_init : ∃ fd, FunD K "__init__" "PlayError.__init__" (defArgs s_init) (defBody s_init) (defScope s_init) [] [] (He.ma K (He.ga K "PlayError") "__init__") fd
  g_BadLaw : mg "BadLaw" = some (.ref (He.ga K "BadLaw"))
  g_Law : mg "Law" = some (.ref (He.ga K "Law"))
  g_PlayError : mg "PlayError" = some (.ref (He.ga K "PlayError"))
  e_BadLaw : ECls K (He.ga K "BadLaw") (He.ma K (He.ga K "PlayError") "__init__")
  x_BadLaw : PySem.W.exmOne K (.ref (He.ga K "BadLaw")) (.ref (He.ga K "PlayError")) = some true
  n_BadLaw : PySem.W.kitOne K (.type "NoneType") (.ref (He.ga K "BadLaw")) = some false
  k_BadLaw_BadLaw : PySem.W.kitOne K (.ref (He.ga K "BadLaw")) (.ref (He.ga K "BadLaw")) = some true
  cl_Law : Cls K (He.ga K "Law")
  mk_Law : Mk K (He.ga K "Law") (He.ma K (He.ga K "Law") "__init__")
  na_Law_marked : NoAttr K (He.ga K "Law") "marked"
  na_Law_names : NoAttr K (He.ga K "Law") "names"
  na_Law_often : NoAttr K (He.ga K "Law") "often"
  na_Law_steps : NoAttr K (He.ga K "Law") "steps"
  na_Law_text : NoAttr K (He.ga K "Law") "text"
  o_Law : OwnC K (He.ga K "Law")
  l_Law : OwnL K (He.ga K "Law")
  i_Law : OwnI K (He.ga K "Law")
  z_abs : mg "abs" = none
  z_all : mg "all" = none
  z_bool : mg "bool" = none
  z_dict : mg "dict" = none
  z_enumerate : mg "enumerate" = none
  z_int : mg "int" = none
  z_isinstance : mg "isinstance" = none
  z_len : mg "len" = none
  z_list : mg "list" = none
  z_max : mg "max" = none
  z_min : mg "min" = none
  z_range : mg "range" = none
  z_str : mg "str" = none
  z_sum : mg "sum" = none
  z_tuple : mg "tuple" = none
  z_type : mg "type" = none
  z_zip : mg "zip" = none
section
variable {P : Program} {w : World} {K : PySem.W.Frag} {mg : Str → Option Value} {base : Heap}
def kg_Law_init_1_text {α : Type} (us ws : List α) : List α := (((us.drop 0).take 1) ++ ((ws.drop 0).take 1))
theorem kb_Law_init_1_text {f : Addr} {fd : FuncData} (D : FunD K "__init__" "Law.__init__" (defArgs s_Law_init) (defBody s_Law_init) (defScope s_Law_init) [] [] f fd) : KBn K fd ["self", "text"] 1 ["text"] (fun us ws => kg_Law_init_1_text us ws) (fun vs zs => kg_Law_init_1_text vs zs) :=
  kbN D 1 ["text"] (fun us ws => kg_Law_init_1_text us ws) (fun {vs zs us ws} r1 r2 => (Vals.append ((r1.drop 0).take 1) ((r2.drop 0).take 1)))
    (fun _ _ _ _ _ _ us ws h1 h2 => match us, ws, h1, h2 with | [_], [_], _, _ => rfl)
theorem ok_errI (T : Txt K mg) : ErrI P w K mg base (He.ma K (He.ga K "PlayError") "__init__") := by
  obtain ⟨fd, D⟩ := T.d_init
  refine ⟨fd, D.ok sc_init (fun vs H Q E h => ?_) (fun cdv A outer s H vs Q E hr h => ?_), D.bindsN (fun _ _ _ _ _ _ us hl => match us, hl with | [_, _], _ => rfl)⟩
  · obtain ⟨a, C, v, rfl, h1, h2, h3, q⟩ := h
    rfl
  · obtain ⟨a, C, v, rfl, h1, h2, h3, q⟩ := h
    exact ⟨_, PSs.nox (pss_one (ps_ost (pv 0) (pv 1))), v, rfl, .ref a, rfl, a, C, rfl, h2, h3, .inl ⟨h1, q⟩⟩
def sp_Lpot (K : PySem.W.Frag) : Sp := fun vs H Q _ => ∃ (a : Addr) (ns : List Int) (i : Nat), vs = [.ref a, .int i] ∧ SqL K H a (ns.map V.int) ∧ i ≤ 10 ∧ ∀ H' p, Same H H' → H p = none → PotAt H' p 0 → Q (.ref p) H'
theorem ok_Lpot (T : Txt K mg) : Ok P w K mg base CX0 (1) "_law_pot" s_Lpot ["script", "at"] (sp_Lpot K) := by
  obtain ⟨fd, D⟩ := T.d_Lpot
  refine ⟨⟨_, fd, T.g__law_pot, D, D.bindsN (fun _ _ _ _ _ _ us hl => match us, hl with | [_, _], _ => rfl), ?_⟩⟩
  refine D.ok sc_Lpot (fun vs H Q E h => ?_) (fun cdv A outer s H vs Q E hr h => ?_)
  · obtain ⟨a, ns, i, rfl, hS, hi, q⟩ := h
    rfl
  · obtain ⟨a, ns, i, rfl, hS, hi, q⟩ := h
    refine ⟨_, PSs.nox (pss_cons (ps_set (i := 2) sc_Lpot.nd rfl (by first | exact Or.inl rfl | exact Or.inr rfl) (pe_ifExp (pt_cmpR op_lt (pv 1) (pe_callB k_lnQ (by rfl) T.z_len (by decide +kernel) (pa_cons (pv 0) pa_nil)) (nomark _)) (pe_ix ix_list (pv 0) (pv 1) (fun _ _ => rfl)) (pe_op op_add (pe_op op_add (pe_op op_mod (pe_callB (cr_sum rfl) (by rfl) T.z_sum (by decide +kernel) (pa_cons (pe_slice sl_list (pv 0) po_none (po_some pe_int)) pa_nil)) pe_int) (pe_op op_mulW pe_int (pv 1))) pe_int)))
      (pss_cons (ps_set (i := 3) sc_Lpot.nd rfl (by first | exact Or.inl rfl | exact Or.inr rfl) (pe_op op_mulW (pe_op op_mod (pe_callTy k_int (by rfl) T.z_int (by decide +kernel) (pa_cons (pe_callB k_abs (by rfl) T.z_abs (by decide +kernel) (pa_cons (pv 2) pa_nil)) pa_nil)) (pe_op op_powW (pe_op op_powW pe_int pe_int) pe_int)) (pe_callTy k_int (by rfl) T.z_int (by decide +kernel) (pa_cons (pe_cmpR op_ge (pe_callB k_abs (by rfl) T.z_abs (by decide +kernel) (pa_cons (pv 2) pa_nil)) (pe_op op_powW pe_int pe_int) (nomark _)) pa_nil))))
      (pss_cons (ps_set (i := 4) sc_Lpot.nd rfl (by first | exact Or.inl rfl | exact Or.inr rfl) (pe_op op_mod (pe_callTy k_int (by rfl) T.z_int (by decide +kernel) (pa_cons (pv 2) pa_nil)) pe_int))
      (pss_one (ps_ret (pe_lst (pa_cons (pv 3) (pa_cons (pe_op op_mod (pe_callTy k_int (by rfl) T.z_int (by decide +kernel) (pa_cons (pe_op op_add (pe_op op_add (pe_op op_mulW (pv 4) pe_int) (pe_op op_mulW (pe_op op_mulW pe_int (pv 1)) (pv 1))) pe_int) pa_nil)) pe_int) (pa_cons pe_int pa_nil))))))))), ?_⟩
    refine r_seq (r_asg (r_cut (fun x H1 => ∃ z : Int, x = .int z ∧ Same H H1) ?_ fun R fin => ?_))
    · rintro x H1 ⟨z, rfl, e⟩
      walk_at "r"
      refine r_I (cpw (by decide) (by decide) (by decide) (by decide)) ?_
      walk_at "r"
      refine r_I ⟨by decide, by decide +kernel⟩ ?_
      walk_at "r"
      refine r_I (by show (0 : Int) < _; decide +kernel) ?_
      walk_at "r"
      refine r_I (cpw (by decide) (by decide) (by decide) (by decide)) ?_
      walk_at "r"
      have hM : (0 : Int) < (10 ^ (60 : Int).toNat) ^ (5 : Int).toNat := by decide +kernel
      have hM2 : ((10 : Int) ^ (60 : Int).toNat) ^ (5 : Int).toNat < 2 ^ 1000 := by decide +kernel
      have h1 := Int.emod_nonneg (if z < 0 then -z else z) (Int.ne_of_gt hM)
      have h2 := Int.emod_lt_of_pos (if z < 0 then -z else z) hM
      generalize (if z < 0 then -z else z) % ((10 : Int) ^ (60 : Int).toNat) ^ (5 : Int).toNat = own at h1 h2 ⊢
      have h3 : own < 2 ^ 1000 := Int.lt_trans h2 hM2
      generalize hb : (decide ((10 : Int) ^ (18 : Int).toNat ≤ if z < 0 then -z else z)) = b
      have ho : ∃ o : Int, own * (if b then 1 else 0) = o ∧ 0 ≤ o ∧ o.natAbs < 2 ^ 1000 ∧ CMulW own (if b then 1 else 0) := by
        have e2 : (2 : Int) ^ 1000 ≤ 2 ^ 1100 := by decide +kernel
        have e3 : (1 : Int) < 2 ^ 1000 := by decide +kernel
        cases b
        · exact ⟨0, by simp, by decide, by decide +kernel, cmw (by omega) (by omega) (by simp) (by simp)⟩
        · exact ⟨own, by simp, h1, by omega, cmw (by omega) (by omega) (by simp) (by simp)⟩
      obtain ⟨o, ho1, ho2, ho3, ho4⟩ := ho
      refine r_I ho4 ?_
      rw [ho1]
      walk_at "r"
      refine r_I (by show (0 : Int) < _; decide) ?_
      walk_at "r"
      have s1 := Int.emod_nonneg z (show (2305843009213693951 : Int) ≠ 0 by decide)
      have s2 := Int.emod_lt_of_pos z (show (0 : Int) < 2305843009213693951 by decide)
      generalize z % 2305843009213693951 = sm at s1 s2 ⊢
      refine r_I (cms (by omega) (by omega) (by omega) (by omega)) ?_
      walk_at "r"
      refine r_I (cms (by omega) (by omega) (by omega) (by omega)) ?_
      walk_at "r"
      refine r_I (cms (by omega) (by omega) (by omega) (by omega)) ?_
      walk_at "r"
      refine r_I (by show (0 : Int) < _; decide) ?_
      walk_at "r"
      refine ⟨by show 3 ≤ sizeLine; decide, fun p hp => ?_⟩
      refine q _ p (e.trans (same_new hp)) (e.free hp) ⟨o, _, 0, upd_same, ho2, ho3, Int.emod_nonneg _ (by decide), Int.lt_trans (Int.emod_lt_of_pos _ (by decide)) (by decide), by decide, by decide⟩
    · walk_at "r"
      refine r_lnL hS ?_
      walk_at "r"
      refine r_dec (fun h => ?_) (fun h => ?_)
      · walk_at "r"
        have hi' : i < ns.length := by rw [List.length_map] at h; omega
        refine r_ixL hS (v := .int ns[i]) (atI_nat (by rw [List.getElem?_map, List.getElem?_eq_getElem hi']; rfl)) ?_
        exact fin _ _ ⟨_, rfl, Same.refl _⟩
      · walk_at "r"
        refine r_slL hS fun p hp => ?_
        walk_at "r"
        obtain ⟨ms, hms⟩ : ∃ ms : List Int, cutV (ns.map V.int) none (some 1) = ms.map V.int := by
          refine ⟨(ns.drop (HT.sIx (ns.map V.int).length 0 none)).take (HT.sIx (ns.map V.int).length (ns.map V.int).length (some 1) - HT.sIx (ns.map V.int).length 0 none), ?_⟩
          unfold cutV
          rw [List.map_take, List.map_drop]
        rw [hms]
        refine r_sum (SqL.of upd_same) ?_
        walk_at "r"
        refine r_I (by show (0 : Int) < _; decide) ?_
        walk_at "r"
        refine r_I (cms (by omega) (by omega) (by omega) (by omega)) ?_
        walk_at "r"
        exact fin _ _ ⟨_, rfl, same_new hp⟩
def sp_Ltake (K : PySem.W.Frag) : Sp := fun vs H Q _ => ∃ (a : Addr) (u c : Int), vs = [.ref a, .int u] ∧ PotAt H a c ∧ c ≤ 1000000 ∧ 0 < u ∧ u < 1073741824 ∧ ∀ H' d, But a H H' → PotAt H' a (c + 1) → 0 ≤ d → d < u → Q (.int d) H'
theorem ok_Ltake (T : Txt K mg) : Ok P w K mg base CX0 (1) "_law_take" s_Ltake ["pot", "upto"] (sp_Ltake K) := by
  obtain ⟨fd, D⟩ := T.d_Ltake
  refine ⟨⟨_, fd, T.g__law_take, D, D.bindsN (fun _ _ _ _ _ _ us hl => match us, hl with | [_, _], _ => rfl), ?_⟩⟩
  refine D.ok sc_Ltake (fun vs H Q E h => ?_) (fun cdv A outer s H vs Q E hr h => ?_)
  · obtain ⟨a, u, c, rfl, hP, hc, hu, hu2, q⟩ := h
    rfl
  · obtain ⟨a, u, c, rfl, hP, hc, hu, hu2, q⟩ := h
    refine ⟨_, PSs.nox (pss_cons (ps_if (pt_cmpR op_gt (pe_ix ix_list (pv 0) pe_int (fun _ _ => rfl)) pe_int (nomark _))
        (pss_cons (ps_set (i := 4) sc_Ltake.nd rfl (by first | exact Or.inl rfl | exact Or.inr rfl) (pe_op op_mod (pe_callTy k_int (by rfl) T.z_int (by decide +kernel) (pa_cons (pe_ix ix_list (pv 0) pe_int (fun _ _ => rfl)) pa_nil)) (pv 1)))
      (pss_cons (ps_asg (pe_op op_fdivW (pe_ix ix_list (pv 0) pe_int (fun _ _ => rfl)) (pv 1)) (pg_sub (pv 0) pe_int set_list))
      (pss_one (ps_ret (pv 4)))))
        pss_nil)
      (pss_cons (ps_asg (pe_op op_add (pe_ix ix_list (pv 0) pe_int (fun _ _ => rfl)) pe_int) (pg_sub (pv 0) pe_int set_list))
      (pss_cons (ps_set (i := 2) sc_Ltake.nd rfl (by first | exact Or.inl rfl | exact Or.inr rfl) (pe_ix ix_list (pe_lst (pa_cons pe_int (pa_cons pe_int (pa_cons pe_int (pa_cons pe_int (pa_cons pe_int pa_nil)))))) (pe_op op_mod (pe_callTy k_int (by rfl) T.z_int (by decide +kernel) (pa_cons (pe_ix ix_list (pv 0) pe_int (fun _ _ => rfl)) pa_nil)) pe_int) (fun _ _ => rfl)))
      (pss_cons (ps_set (i := 3) sc_Ltake.nd rfl (by first | exact Or.inl rfl | exact Or.inr rfl) (pe_op op_mod (pe_callTy k_int (by rfl) T.z_int (by decide +kernel) (pa_cons (pe_op op_powW (pe_callTy k_int (by rfl) T.z_int (by decide +kernel) (pa_cons (pe_op op_add (pe_op op_add (pe_ix ix_list (pv 0) pe_int (fun _ _ => rfl)) (pe_op op_mulW (pe_op op_mulW pe_int (pe_ix ix_list (pv 0) pe_int (fun _ _ => rfl))) (pe_ix ix_list (pv 0) pe_int (fun _ _ => rfl)))) pe_int) pa_nil)) pe_int) pa_nil)) (pv 2)))
      (pss_cons (ps_set (i := 3) sc_Ltake.nd rfl (by first | exact Or.inl rfl | exact Or.inr rfl) (pe_op op_mod (pe_callTy k_int (by rfl) T.z_int (by decide +kernel) (pa_cons (pe_op op_mulW (pv 3) (pe_op op_add (pe_op op_mod (pe_callTy k_int (by rfl) T.z_int (by decide +kernel) (pa_cons (pv 3) pa_nil)) pe_int) (pe_op op_mulW pe_int (pe_ix ix_list (pv 0) pe_int (fun _ _ => rfl))))) pa_nil)) pe_int))
      (pss_one (ps_ret (pe_op op_mod (pe_callTy k_int (by rfl) T.z_int (by decide +kernel) (pa_cons (pe_op op_fdivW (pv 3) pe_int) pa_nil)) (pv 1))))))))), ?_⟩
    obtain ⟨own, sd, n, hA, o1, o2, s1, s2, n1, n2⟩ := hP
    refine r_seq (Tf.s_cut (fun σ' H' => σ' = [some (.ref a), some (.int u), none, none, none] ∧ H' = H) ?_ fun R fin => ?_)
    · rintro σ' G ⟨rfl, rfl⟩
      walk_at "r"
      refine r_ixL (SqL.of hA) rfl ?_
      walk_at "r"
      refine r_setL (j := 2) hA rfl ?_
      walk_at "r"
      have hA2 : (upd G a (.lst ([V.int own, V.int sd, V.int n].set 2 (V.int (n + 1))))) a = some (.lst [.int own, .int sd, .int (n + 1)]) := upd_same
      have b2 : But a G (upd G a (.lst ([V.int own, V.int sd, V.int n].set 2 (V.int (n + 1))))) := But.put But.refl
      generalize upd G a (.lst ([V.int own, V.int sd, V.int n].set 2 (V.int (n + 1)))) = H2 at hA2 b2 ⊢
      refine ⟨by show 5 ≤ sizeLine; decide, fun p hp => ?_⟩
      have hA3 : (upd H2 p (.lst [.int 2147483647, .int 2147483629, .int 2147483587, .int 2147483579, .int 2147483563])) a = some (.lst [.int own, .int sd, .int (n + 1)]) := same_new hp _ _ hA2
      walk_at "r"
      refine r_ixL (SqL.of hA3) rfl ?_
      walk_at "r"
      refine r_I (by show (0 : Int) < _; decide) ?_
      obtain ⟨v, hv, hm⟩ := at_mem (xs := [.int 2147483647, .int 2147483629, .int 2147483587, .int 2147483579, .int 2147483563]) (i := (n + 1) % 5) (by omega) (by simp; omega)
      refine r_ixL (SqL.of upd_same) hv ?_
      obtain ⟨m, rfl, m1, m2⟩ : ∃ m : Int, v = .int m ∧ 0 < m ∧ m ≤ 2147483647 := by
        simp only [List.mem_cons, List.not_mem_nil, or_false] at hm
        rcases hm with rfl | rfl | rfl | rfl | rfl <;> exact ⟨_, rfl, by decide, by decide⟩
      have b3 := b2.trans (But.of (same_new hp (o := .lst [.int 2147483647, .int 2147483629, .int 2147483587, .int 2147483579, .int 2147483563])))
      generalize upd H2 p (.lst [.int 2147483647, .int 2147483629, .int 2147483587, .int 2147483579, .int 2147483563]) = H3 at hA3 b3 ⊢
      walk_at "r"
      refine r_ixL (SqL.of hA3) rfl ?_
      walk_at "r"
      refine r_ixL (SqL.of hA3) rfl ?_
      refine r_I (cms (by omega) (by omega) (by omega) (by omega)) ?_
      generalize hx : (_ : Int) * (n + 1) = x1
      have hx1 : 0 ≤ x1 := by omega
      have hx2 : x1 ≤ 1000000000000 := by omega
      have hx3 := mulB hx1 hx2 (show 0 ≤ n + 1 by omega) (show n + 1 ≤ 2000000 by omega) (show (1000000000000 : Int) * 2000000 ≤ 2000000000000000000 by decide)
      walk_at "r"
      refine r_ixL (SqL.of hA3) rfl ?_
      refine r_I (cms (by omega) (by omega) (by omega) (by omega)) ?_
      generalize x1 * (n + 1) = x2 at hx3 ⊢
      walk_at "r"
      refine r_I (cpw (by omega) (by omega) (by decide) (by decide)) ?_
      walk_at "r"
      refine r_I m1 ?_
      walk_at "r"
      generalize hb : (sd + x2 + _) ^ (3 : Int).toNat = cub
      have t1 := Int.emod_nonneg cub (Int.ne_of_gt m1)
      have t2 := Int.emod_lt_of_pos cub m1
      generalize cub % m = bl at t1 t2 ⊢
      refine r_I (by show (0 : Int) < _; decide) ?_
      walk_at "r"
      refine r_ixL (SqL.of hA3) rfl ?_
      refine r_I (cms (by omega) (by omega) (by omega) (by omega)) ?_
      walk_at "r"
      refine r_I (cms (by omega) (by omega) (by omega) (by omega)) ?_
      walk_at "r"
      refine r_I (by show (0 : Int) < _; decide) ?_
      walk_at "r"
      refine r_I (cdw (by decide) (by decide)) ?_
      walk_at "r"
      refine r_I hu ?_
      exact q _ _ b3 ⟨own, sd, n + 1, hA3, o1, o2, s1, s2, by omega, by omega⟩ (Int.emod_nonneg _ (by omega)) (Int.emod_lt_of_pos _ hu)
    · walk_at "r"
      refine r_ixL (SqL.of hA) rfl ?_
      walk_at "r"
      refine r_dec (fun h => ?_) (fun h => ?_)
      · walk_at "r"
        refine r_ixL (SqL.of hA) rfl ?_
        walk_at "r"
        refine r_I hu ?_
        walk_at "r"
        refine r_ixL (SqL.of hA) rfl ?_
        walk_at "r"
        refine r_I (cdw hu (by omega)) ?_
        walk_at "r"
        refine r_setL (j := 0) hA rfl ?_
        walk_at "r"
        obtain ⟨d1, d2⟩ := div_sz o1 o2 hu
        exact q _ _ (But.put But.refl) ⟨own / u, sd, n, upd_same, d1, d2, s1, s2, n1, by omega⟩ (Int.emod_nonneg _ (by omega)) (Int.emod_lt_of_pos _ hu)
      · walk_at "r"
        exact fin _ _ ⟨rfl, rfl⟩
def sp_Lof (K : PySem.W.Frag) : Sp := fun vs H Q _ => ∃ (a l : Addr) (xs : List V) (c : Int), vs = [.ref a, .ref l] ∧ PotAt H a c ∧ c ≤ 1000000 ∧ SqL K H l xs ∧ l ≠ a ∧ 0 < xs.length ∧ xs.length ≤ 1000000 ∧ ∀ H' x, But a H H' → PotAt H' a (c + 1) → x ∈ xs → Q x H'
theorem ok_Lof (T : Txt K mg) : Ok P w K mg base CX0 (2) "_law_of" s_Lof ["pot", "some"] (sp_Lof K) := by
  obtain ⟨fd, D⟩ := T.d_Lof
  refine ⟨⟨_, fd, T.g__law_of, D, D.bindsN (fun _ _ _ _ _ _ us hl => match us, hl with | [_, _], _ => rfl), ?_⟩⟩
  refine D.ok sc_Lof (fun vs H Q E h => ?_) (fun cdv A outer s H vs Q E hr h => ?_)
  · obtain ⟨a, l, xs, c, rfl, hP, hc, hl, hla, h0, hz, q⟩ := h
    rfl
  · obtain ⟨a, l, xs, c, rfl, hP, hc, hl, hla, h0, hz, q⟩ := h
    have F_Ltake := ok_Ltake (P := P) (w := w) (K := K) (mg := mg) (base := base) T
    refine ⟨_, PSs.nox (pss_one (ps_ret (pe_ix ix_list (pv 1) (pe_cl F_Ltake hr (by rfl) pass0 (pa_cons (pv 0) (pa_cons (pe_callB k_lnQ (by rfl) T.z_len (by decide +kernel) (pa_cons (pv 1) pa_nil)) pa_nil))) (fun _ _ => rfl)))), ?_⟩
    walk_at "r"
    refine r_lnL hl ?_
    walk_at "r"
    refine ⟨a, xs.length, c, rfl, hP, hc, by omega, by omega, fun H' d b p d0 d1 => ?_⟩
    obtain ⟨v, hv, hm⟩ := at_mem (xs := xs) d0 d1
    exact r_ixL (b.sql hla hl) hv (q _ _ b p hm)
def sp_Lcells (K : PySem.W.Frag) : Sp := fun vs H Q _ => ∃ (a : Addr) (xs : List V) (m : Int), vs = [.ref a, .int m] ∧ SqL K H a xs ∧ 1 ≤ m ∧ m ≤ 10 ∧ ∀ H' p (n : Nat), Same H H' → n ≤ 10 → H' p = some (.lst ((List.range n).map fun i : Nat => V.int i)) → Q (.ref p) H'
theorem ok_Lcells (T : Txt K mg) : Ok P w K mg base CX0 (1) "_law_cells" s_Lcells ["script", "most"] (sp_Lcells K) := by
  obtain ⟨fd, D⟩ := T.d_Lcells
  refine ⟨⟨_, fd, T.g__law_cells, D, D.bindsN (fun _ _ _ _ _ _ us hl => match us, hl with | [_, _], _ => rfl), ?_⟩⟩
  refine D.ok sc_Lcells (fun vs H Q E h => ?_) (fun cdv A outer s H vs Q E hr h => ?_)
  · obtain ⟨a, xs, m, rfl, hS, h1, h2, q⟩ := h
    rfl
  · obtain ⟨a, xs, m, rfl, hS, h1, h2, q⟩ := h
    refine ⟨_, PSs.nox (pss_one (ps_ret (pe_listRg rfl (by rfl) T.z_list (prg_1 (by rfl) T.z_range (pe_callB (k_max2 rfl) (by rfl) T.z_max (by decide +kernel) (pa_cons pe_int (pa_cons (pe_callB (k_min2 rfl) (by rfl) T.z_min (by decide +kernel) (pa_cons (pv 1) (pa_cons (pe_callB k_lnQ (by rfl) T.z_len (by decide +kernel) (pa_cons (pv 0) pa_nil)) pa_nil))) pa_nil))))))), ?_⟩
    walk_at "r"
    refine r_lnL hS ?_
    walk_at "r"
    generalize hk : (if (1 : Int) < (if (xs.length : Int) < m then (xs.length : Int) else m) then (if (xs.length : Int) < m then (xs.length : Int) else m) else 1) = k
    have k1 : 1 ≤ k ∧ k ≤ 10 := by
      subst hk
      split <;> split <;> omega
    refine ⟨RgOk.of_le (by decide) (by omega) (by decide) (by omega), fun p hp => ?_⟩
    refine q _ p k.toNat (same_new hp) (by omega) ?_
    rw [upd_same]
    unfold rgV
    congr 2
    simp

def sp_is_name (K : PySem.W.Frag) : Sp := fun vs H Q _ => ∃ l : List Nat, vs = [.str (S l)] ∧ l.length ≤ 100000 ∧ ∀ H', Same H H' → Q (.bl (nmB l)) H'
theorem ok_is_name (T : Txt K mg) : Ok P w K mg base CX0 (1) "is_name" s_is_name ["value"] (sp_is_name K) := by
  obtain ⟨fd, D⟩ := T.d_is_name
  refine ⟨⟨_, fd, T.g_is_name, D, D.bindsN (fun _ _ _ _ _ _ us hl => match us, hl with | [_], _ => rfl), ?_⟩⟩
  refine D.ok sc_is_name (fun vs H Q E h => ?_) (fun cdv A outer s H vs Q E hr h => ?_)
  · obtain ⟨l, rfl, hl, q⟩ := h
    rfl
  · obtain ⟨l, rfl, hl, q⟩ := h
    refine ⟨_, PSs.nox (pss_one (ps_ret (pe_and (pe_cmpR o_isT (pe_callTy call_type1 (by rfl) T.z_type (by decide +kernel) (pa_cons (pv 0) pa_nil)) (pe_bltn (v := .ty "str") (by rfl) T.z_str (by decide +kernel) rfl) (nomark _)) (pe_and (pe_chain op_le op_le pe_int (pe_callB k_lnS (by rfl) T.z_len (by decide +kernel) (pa_cons (pv 0) pa_nil)) (pe_gint (by rfl) T.c_MOST_LETTERS)) (pe_one (pe_callB (cr_all rfl) (by rfl) T.z_all (by decide +kernel) (pa_cons (pe_lc (own := [("sign", 1)]) (g := gName 1) (tt := tYes) rfl sc_is_name.nd (pi_str (pv 0)) (blkOk_by (N := ["value", "sign"]) (sc := defScope s_is_name) (by decide +kernel)) (fun _ _ _ _ _ => (pg_name (i := 1) sc_is_name.nd rfl (by first | exact Or.inl rfl | exact Or.inr rfl))) (fun _ _ _ _ _ => pts_nil) (fun _ _ _ _ _ => (pe_cmpR o_inC (pv 1) (pe_gstrS [97, 98, 99, 100, 101, 102, 103, 104, 105, 106, 107, 108, 109, 110, 111, 112, 113, 114, 115, 116, 117, 118, 119, 120, 121, 122] (by rfl) (by rfl) T.c_LETTERS) (by rfl)))) pa_nil))))))), ?_⟩
    walk_at "r"
    refine r_typ (.str _) ?_
    walk_at "r"
    refine r_yesD rfl ?_
    walk_at "r"
    refine r_lnT (l := l) (by omega) ?_
    walk_at "r"
    unfold nmB at q
    by_cases h1 : 1 ≤ l.length
    rotate_left
    · rw [decide_eq_false (by omega)]
      walk_at "r"
      have := q _ (Same.refl _)
      rw [decide_eq_false h1] at this
      exact this
    refine r_yesD (by omega) ?_
    walk_at "r"
    rw [decide_eq_true h1] at q
    by_cases h2 : l.length ≤ 6
    rotate_left
    · rw [decide_eq_false (by omega)]
      walk_at "r"
      have := q _ (Same.refl _)
      rw [decide_eq_false h2] at this
      exact this
    refine r_yesD (by omega) ?_
    rw [decide_eq_true h2] at q
    walk_at "r"
    refine ⟨_, rfl, fun D hD => lcS_test (l := l) (fun c => decide (97 ≤ c ∧ c ≤ 122)) hD (by omega) (fun i c H' e e' R hR => ?_) fun H' e e' => ?_⟩
    · walk_at "r"
      refine ⟨rfl, ?_⟩
      walk_at "r"
      have m : (c ∈ [97, 98, 99, 100, 101, 102, 103, 104, 105, 106, 107, 108, 109, 110, 111, 112, 113, 114, 115, 116, 117, 118, 119, 120, 121, 122]) ↔ (97 ≤ c ∧ c ≤ 122) := by
        simp only [List.mem_cons, List.not_mem_nil, or_false]
        omega
      rw [decide_eq_decide.mpr m]
      exact hR _ (Same.refl _)
    · walk_at "r"
      refine r_allB e' ?_
      rw [List.all_map]
      exact q _ e
def sp_is_head (K : PySem.W.Frag) : Sp := fun vs H Q _ => ∃ n : Nat, vs = [.int n] ∧ ∀ H', Same H H' → Q (.bl (decide (n % 4 = 1))) H'
theorem ok_is_head (T : Txt K mg) : Ok P w K mg base CX0 (1) "is_head" s_is_head ["at"] (sp_is_head K) := by
  obtain ⟨fd, D⟩ := T.d_is_head
  refine ⟨⟨_, fd, T.g_is_head, D, D.bindsN (fun _ _ _ _ _ _ us hl => match us, hl with | [_], _ => rfl), ?_⟩⟩
  refine D.ok sc_is_head (fun vs H Q E h => ?_) (fun cdv A outer s H vs Q E hr h => ?_)
  · obtain ⟨n, rfl, q⟩ := h
    rfl
  · obtain ⟨n, rfl, q⟩ := h
    refine ⟨_, PSs.nox (pss_one (ps_ret (pe_cmpR op_eq (pe_op op_mod (pv 0) (pe_gint (by rfl) T.c_LINES_OF_A_STATE)) pe_int (nomark _)))), ?_⟩
    walk_at "r"
    refine ⟨_, _, rfl, rfl, by show (0 : Int) < 4; decide, ?_⟩
    walk_at "r"
    show Q (.bl (decide (V.int ((n : Int) % 4) = V.int 1))) H
    have := q H (Same.refl _)
    have e : decide (V.int ((n : Int) % 4) = V.int 1) = decide (n % 4 = 1) := by
      rw [Bool.eq_iff_iff, decide_eq_true_eq, decide_eq_true_eq]
      exact ⟨fun h => by have := V.int.inj h; omega, fun h => by congr 1; omega⟩
    rw [e]
    exact this
def sp_last_word (K : PySem.W.Frag) : Sp := fun vs H Q _ => ∃ l : List Nat, vs = [.str (S l)] ∧ l.length ≤ 100000 ∧ ∀ H', Same H H' → Q (.str (S ((cutL 32 l).getLastD []))) H'
theorem ok_last_word (T : Txt K mg) : Ok P w K mg base CX0 (1) "last_word" s_last_word ["line"] (sp_last_word K) := by
  obtain ⟨fd, D⟩ := T.d_last_word
  refine ⟨⟨_, fd, T.g_last_word, D, D.bindsN (fun _ _ _ _ _ _ us hl => match us, hl with | [_], _ => rfl), ?_⟩⟩
  refine D.ok sc_last_word (fun vs H Q E h => ?_) (fun cdv A outer s H vs Q E hr h => ?_)
  · obtain ⟨l, rfl, hl, q⟩ := h
    rfl
  · obtain ⟨l, rfl, hl, q⟩ := h
    refine ⟨_, PSs.nox (pss_one (ps_ret (pe_ix ix_list (pe_split (pv 0) (pe_strS [32] (by rfl))) (pe_un un_neg pe_int) (fun _ _ => rfl)))), ?_⟩
    walk_at "r"
    refine ⟨⟨_, rfl⟩, ?_⟩
    walk_at "r"
    refine ⟨_, _, rfl, rfl, rfl, by rw [S_len]; exact lt_line (by omega), ?_⟩
    rw [split_cut (by decide)]
    refine r_newS fun H1 p s1 _ h1 => ?_
    walk_at "r"
    obtain ⟨c1, _, _⟩ := cutL_ok 32 l
    obtain ⟨ws, w, ew⟩ : ∃ ws w, cutL 32 l = ws ++ [w] := ⟨_, _, (List.dropLast_concat_getLast c1).symm⟩
    rw [ew] at h1 q
    refine r_ixL (SqL.of h1) (by rw [List.map_append]; exact atI_last _ _) ?_
    have := q _ s1
    rw [List.getLastD_concat] at this
    exact this
def sp_is_state (K : PySem.W.Frag) : Sp := fun vs H Q _ => ∃ p ws, vs = [.ref p] ∧ H p = some (.lst (ws.map fun l => V.str (S l))) ∧ ws ≠ [] ∧ (∀ l ∈ ws, l.length ≤ 100000) ∧ ws.length ≤ 100000 ∧ ∀ H', Same H H' → Q (.bl (stB ws)) H'
theorem ok_is_state (T : Txt K mg) : Ok P w K mg base CX0 (2) "is_state" s_is_state ["words"] (sp_is_state K) := by
  obtain ⟨fd, D⟩ := T.d_is_state
  refine ⟨⟨_, fd, T.g_is_state, D, D.bindsN (fun _ _ _ _ _ _ us hl => match us, hl with | [_], _ => rfl), ?_⟩⟩
  refine D.ok sc_is_state (fun vs H Q E h => ?_) (fun cdv A outer s H vs Q E hr h => ?_)
  · obtain ⟨p, ws, rfl, hp, hne, hl, hz, q⟩ := h
    rfl
  · obtain ⟨p, ws, rfl, hp, hne, hl, hz, q⟩ := h
    have F_is_name := ok_is_name (P := P) (w := w) (K := K) (mg := mg) (base := base) T
    refine ⟨_, PSs.nox (pss_cons (ps_if (PW.pt (pw_and (pt_cmpR op_eq (pe_callB k_lnQ (by rfl) T.z_len (by decide +kernel) (pa_cons (pv 0) pa_nil)) pe_int (nomark _)) (pw_and1 (pt_cmpR op_ne (pe_ix ix_list (pv 0) pe_int (fun _ _ => rfl)) (pe_strS [111, 102, 116, 101, 110] (by rfl)) (nomark _)))))
        (pss_one (ps_ret pe_bl))
        pss_nil)
      (pss_one (ps_ret (pe_and (pe_chain op_le op_le pe_int (pe_callB k_lnQ (by rfl) T.z_len (by decide +kernel) (pa_cons (pv 0) pa_nil)) pe_int) (pe_and (pe_cmpR op_eq (pe_ix ix_list (pv 0) pe_int (fun _ _ => rfl)) (pe_strS [115, 116, 97, 116, 101] (by rfl)) (nomark _)) (pe_one (pe_cl F_is_name hr (by rfl) pass0 (pa_cons (pe_ix ix_list (pv 0) pe_int (fun _ _ => rfl)) pa_nil)))))))), ?_⟩
    have hS : ∀ a b : List Nat, decide (V.str (S a) = V.str (S b)) = decide (a = b) := fun a b => decide_eq_decide.mpr S_iff
    walk_at "r"
    refine r_lnL (SqL.of hp) ?_
    walk_at "r"
    match ws, hne, hp, hl, hz, q with
    | [a], _, hp, hl, hz, q =>
      refine r_noD (fun z => by have := V.int.inj z; simp at this) ?_
      walk_at "r"
      refine r_lnL (SqL.of hp) ?_
      walk_at "r"
      refine r_noD (by simp) ?_
      walk_at "r"
      exact q _ (Same.refl _)
    | [a, b], _, hp, hl, hz, q =>
      refine r_noD (fun z => by have := V.int.inj z; simp at this) ?_
      walk_at "r"
      refine r_lnL (SqL.of hp) ?_
      walk_at "r"
      refine r_yesD (by simp; try omega) ?_
      walk_at "r"
      refine r_yesD (by simp; try omega) ?_
      walk_at "r"
      refine r_ixL (SqL.of hp) (words_at (j := 0) rfl) ?_
      walk_at "r"
      rw [hS]
      by_cases h1 : a = wState
      · rw [decide_eq_true (show a = [115, 116, 97, 116, 101] from h1)]
        walk_at "r"
        refine r_ixL (SqL.of hp) (words_at (j := 1) rfl) ?_
        walk_at "r"
        refine ⟨b, rfl, hl b (by simp), fun H1 s1 => ?_⟩
        have := q _ s1
        rw [show stB [a, b] = nmB b by unfold stB; simp [h1]] at this
        exact this
      · rw [decide_eq_false (show ¬ a = [115, 116, 97, 116, 101] from h1)]
        walk_at "r"
        have := q _ (Same.refl _)
        rw [show stB [a, b] = false by unfold stB; simp [h1]] at this
        exact this
    | [a, b, c], _, hp, hl, hz, q =>
      refine r_yesD (c := V.int (((([a, b, c] : List (List Nat)).map fun l => V.str (S l)).length : Nat) : Int) = V.int 3) rfl ?_
      walk_at "r"
      refine r_ixL (SqL.of hp) (words_at (j := 2) rfl) ?_
      walk_at "r"
      rw [hS]
      by_cases h3 : c = wOften
      rotate_left
      · rw [decide_eq_false (show ¬ c = [111, 102, 116, 101, 110] from h3)]
        walk_at "r"
        have := q _ (Same.refl _)
        rw [show stB [a, b, c] = false by unfold stB; simp [h3]] at this
        exact this
      rw [decide_eq_true (show c = [111, 102, 116, 101, 110] from h3)]
      walk_at "r"
      refine r_lnL (SqL.of hp) ?_
      walk_at "r"
      refine r_yesD (by simp; try omega) ?_
      walk_at "r"
      refine r_yesD (by simp; try omega) ?_
      walk_at "r"
      refine r_ixL (SqL.of hp) (words_at (j := 0) rfl) ?_
      walk_at "r"
      rw [hS]
      by_cases h1 : a = wState
      · rw [decide_eq_true (show a = [115, 116, 97, 116, 101] from h1)]
        walk_at "r"
        refine r_ixL (SqL.of hp) (words_at (j := 1) rfl) ?_
        walk_at "r"
        refine ⟨b, rfl, hl b (by simp), fun H1 s1 => ?_⟩
        have := q _ s1
        rw [show stB [a, b, c] = nmB b by unfold stB; simp [h1, h3]] at this
        exact this
      · rw [decide_eq_false (show ¬ a = [115, 116, 97, 116, 101] from h1)]
        walk_at "r"
        have := q _ (Same.refl _)
        rw [show stB [a, b, c] = false by unfold stB; simp [h1]] at this
        exact this
    | a :: b :: c :: d :: r, _, hp, hl, hz, q =>
      refine r_noD (fun z => by have := V.int.inj z; simp at this; omega) ?_
      walk_at "r"
      refine r_lnL (SqL.of hp) ?_
      walk_at "r"
      refine r_yesD (by simp; omega) ?_
      walk_at "r"
      refine r_noD (by simp; omega) ?_
      walk_at "r"
      have := q _ (Same.refl _)
      rw [show stB (a :: b :: c :: d :: r) = false by unfold stB; simp] at this
      exact this
def sp_is_way (K : PySem.W.Frag) : Sp := fun vs H Q _ => ∃ p c ws, vs = [.ref p, .str (S [c])] ∧ H p = some (.lst (ws.map fun l => V.str (S l))) ∧ (∀ l ∈ ws, l.length ≤ 100000) ∧ ws.length ≤ 100000 ∧ ∀ H', Same H H' → Q (.bl (onB ws c)) H'
theorem ok_is_way (T : Txt K mg) : Ok P w K mg base CX0 (2) "is_way" s_is_way ["words", "fate"] (sp_is_way K) := by
  obtain ⟨fd, D⟩ := T.d_is_way
  refine ⟨⟨_, fd, T.g_is_way, D, D.bindsN (fun _ _ _ _ _ _ us hl => match us, hl with | [_, _], _ => rfl), ?_⟩⟩
  refine D.ok sc_is_way (fun vs H Q E h => ?_) (fun cdv A outer s H vs Q E hr h => ?_)
  · obtain ⟨p, c, ws, rfl, hp, hl, hz, q⟩ := h
    rfl
  · obtain ⟨p, c, ws, rfl, hp, hl, hz, q⟩ := h
    have F_is_name := ok_is_name (P := P) (w := w) (K := K) (mg := mg) (base := base) T
    refine ⟨_, PSs.nox (pss_one (ps_ret (pe_and (pe_cmpR op_eq (pe_callB k_lnQ (by rfl) T.z_len (by decide +kernel) (pa_cons (pv 0) pa_nil)) pe_int (nomark _)) (pe_and (pe_cmpR op_eq (pe_ix ix_list (pv 0) pe_int (fun _ _ => rfl)) (pe_strS [111, 110] (by rfl)) (nomark _)) (pe_and (pe_cmpR op_eq (pe_ix ix_list (pv 0) pe_int (fun _ _ => rfl)) (pv 1) (nomark _)) (pe_one (pe_cl F_is_name hr (by rfl) pass0 (pa_cons (pe_ix ix_list (pv 0) pe_int (fun _ _ => rfl)) pa_nil)))))))), ?_⟩
    have hS : ∀ a b : List Nat, decide (V.str (S a) = V.str (S b)) = decide (a = b) := fun a b => decide_eq_decide.mpr S_iff
    walk_at "r"
    refine r_lnL (SqL.of hp) ?_
    walk_at "r"
    by_cases h3 : ws.length = 3
    rotate_left
    · refine r_noD (fun z => h3 (by have := V.int.inj z; simp at this; omega)) ?_
      walk_at "r"
      have := q _ (Same.refl _)
      rw [show onB ws c = false by unfold onB; simp [h3]] at this
      exact this
    match ws, h3, hp, hl, hz, q with
    | [x, y, z], _, hp, hl, hz, q =>
      refine r_yesD (c := V.int (((([x, y, z] : List (List Nat)).map fun l => V.str (S l)).length : Nat) : Int) = V.int 3) rfl ?_
      walk_at "r"
      refine r_ixL (SqL.of hp) (words_at (j := 0) rfl) ?_
      walk_at "r"
      rw [hS]
      by_cases h1 : x = wOn
      rotate_left
      · rw [decide_eq_false (show ¬ x = [111, 110] from h1)]
        walk_at "r"
        have := q _ (Same.refl _)
        rw [show onB [x, y, z] c = false by unfold onB; simp [h1]] at this
        exact this
      rw [decide_eq_true (show x = [111, 110] from h1)]
      walk_at "r"
      refine r_ixL (SqL.of hp) (words_at (j := 1) rfl) ?_
      walk_at "r"
      rw [hS]
      by_cases h2 : y = [c]
      rotate_left
      · rw [decide_eq_false h2]
        walk_at "r"
        have := q _ (Same.refl _)
        rw [show onB [x, y, z] c = false by unfold onB; simp [h2]] at this
        exact this
      rw [decide_eq_true h2]
      walk_at "r"
      refine r_ixL (SqL.of hp) (words_at (j := 2) rfl) ?_
      walk_at "r"
      refine ⟨z, rfl, hl z (by simp), fun H1 s1 => ?_⟩
      have := q _ s1
      rw [show onB [x, y, z] c = nmB z by unfold onB; simp [h1, h2]] at this
      exact this
def sp_can_stand (K : PySem.W.Frag) : Sp := fun vs H Q _ => ∃ (n : Nat) (l : List Nat) (p : Addr) (names : List (List Nat)), vs = [.int n, .str (S l), .ref p] ∧ l.length ≤ 50000 ∧ H p = some (.lst (names.map fun l => V.str (S l))) ∧ ∀ H', Same H H' → Q (.bl (lnB n l names)) H'
theorem ok_can_stand (T : Txt K mg) : Ok P w K mg base CX0 (3) "can_stand" s_can_stand ["at", "line", "names"] (sp_can_stand K) := by
  obtain ⟨fd, D⟩ := T.d_can_stand
  refine ⟨⟨_, fd, T.g_can_stand, D, D.bindsN (fun _ _ _ _ _ _ us hl => match us, hl with | [_, _, _], _ => rfl), ?_⟩⟩
  refine D.ok sc_can_stand (fun vs H Q E h => ?_) (fun cdv A outer s H vs Q E hr h => ?_)
  · obtain ⟨n, l, p, names, rfl, hl, hp, q⟩ := h
    rfl
  · obtain ⟨n, l, p, names, rfl, hl, hp, q⟩ := h
    have F_is_head := ok_is_head (P := P) (w := w) (K := K) (mg := mg) (base := base) T
    have F_is_way := ok_is_way (P := P) (w := w) (K := K) (mg := mg) (base := base) T
    have F_is_state := ok_is_state (P := P) (w := w) (K := K) (mg := mg) (base := base) T
    refine ⟨_, PSs.nox (pss_cons (ps_set (i := 3) sc_can_stand.nd rfl (by first | exact Or.inl rfl | exact Or.inr rfl) (pe_split (pv 1) (pe_strS [32] (by rfl))))
      (pss_cons (ps_if (pt_cmpR op_eq (pv 0) pe_int (nomark _))
        (pss_one (ps_ret (pe_cmpR op_eq (pv 1) (pe_strS [108, 97, 119] (by rfl)) (nomark _))))
        pss_nil)
      (pss_cons (ps_if (pt_val (pe_cl F_is_head hr (by rfl) pass0 (pa_cons (pv 0) pa_nil)))
        (pss_one (ps_ret (pe_and (pe_cl F_is_state hr (by rfl) pass0 (pa_cons (pv 3) pa_nil)) (pe_and (pe_cmpR op_notIn_seq (pe_ix ix_list (pv 3) pe_int (fun _ _ => rfl)) (pv 2) (by rfl)) (pe_one (pe_cmpR op_lt (pe_callB k_lnQ (by rfl) T.z_len (by decide +kernel) (pa_cons (pv 2) pa_nil)) (pe_gint (by rfl) T.c_MOST_STATES) (nomark _)))))))
        pss_nil)
      (pss_one (ps_ret (pe_cl F_is_way hr (by rfl) pass0 (pa_cons (pv 3) (pa_cons (pe_ix ix_str (pe_gstrS [110, 102, 115] (by rfl) (by rfl) T.c_FATES) (pe_op op_mod (pe_op op_sub (pv 0) pe_int) (pe_gint (by rfl) T.c_LINES_OF_A_STATE)) (fun _ _ => rfl)) pa_nil)))))))), ?_⟩
    have hS : ∀ a b : List Nat, decide (V.str (S a) = V.str (S b)) = decide (a = b) := fun a b => decide_eq_decide.mpr S_iff
    obtain ⟨c1, _, _⟩ := cutL_ok 32 l
    obtain ⟨c4, c5⟩ := cutL_len 32 l
    walk_at "r"
    refine ⟨⟨_, rfl⟩, ?_⟩
    walk_at "r"
    refine ⟨_, _, rfl, rfl, rfl, by rw [S_len]; exact lt_line (by omega), ?_⟩
    rw [split_cut (by decide)]
    refine r_newS fun H1 w1 s1 _ h1 => ?_
    walk_at "r"
    unfold lnB at q
    by_cases h0 : n = 0
    · subst h0
      refine r_yesD rfl ?_
      walk_at "r"
      rw [hS]
      exact q _ s1
    refine r_noD (vi_ne (by omega)) ?_
    rw [if_neg h0] at q
    walk_at "r"
    refine ⟨n, rfl, fun H2 s2 => ?_⟩
    have s12 := Same.trans s1 s2
    walk_at "r"
    by_cases hm : n % 4 = 1
    · rw [decide_eq_true hm]
      rw [if_pos hm] at q
      walk_at "r"
      refine ⟨w1, _, rfl, s2 _ _ h1, c1, fun x hx => by have := c5 x hx; omega, by omega, fun H3 s3 => ?_⟩
      have s13 := Same.trans s12 s3
      cases hst : stB (cutL 32 l) with
      | false =>
        rw [hst, Bool.false_and] at q
        walk_at "r"
        exact q _ s13
      | true =>
        rw [hst, Bool.true_and] at q
        obtain ⟨nm, oft, ew, hnm⟩ := stB_row hst
        walk_at "r"
        have h13 := s3 _ _ (s2 _ _ h1)
        rw [ew] at h13
        refine r_ixL (SqL.of h13) (words_at (j := 1) (stW_1 _)) ?_
        walk_at "r"
        refine r_notInNm (.inl (SqL.of (s13 _ _ hp))) ?_
        rw [show (cutL 32 l).getD 1 [] = nm by rw [ew]; cases oft <;> rfl] at q
        by_cases hin : nm ∈ names
        · rw [decide_eq_true hin] at q ⊢
          walk_at "r"
          exact q _ s13
        · rw [decide_eq_false hin] at q ⊢
          walk_at "r"
          refine r_lnL (SqL.of (s13 _ _ hp)) ?_
          walk_at "r"
          rw [List.length_map]
          have := q _ s13
          rw [show (!false && decide (names.length < 64)) = decide (((names.length : Nat) : Int) < 64) from decide_eq_decide.mpr ⟨fun h => by omega, fun h => by omega⟩] at this
          exact this
    · rw [decide_eq_false hm]
      rw [if_neg hm] at q
      walk_at "r"
      refine ⟨_, _, rfl, rfl, by show (0 : Int) < 4; decide, ?_⟩
      obtain ⟨j, hj, hj3⟩ : ∃ j : Nat, (n - 2) % 4 = j ∧ j < 3 := ⟨(n - 2) % 4, rfl, by omega⟩
      show rIxS _ (V.int (((n : Nat) - 2 : Int) % 4)) _ _
      rw [show (((n : Nat) - 2 : Int) % 4) = (j : Int) by omega]
      rw [hj] at q
      obtain ⟨c, ec⟩ : ∃ c, ([110, 102, 115] : List Nat)[j]? = some c := ⟨_, List.getElem?_eq_getElem hj3⟩
      rw [show ([110, 102, 115] : List Nat).getD j 0 = c by rw [List.getD_eq_getElem?_getD, ec]; rfl] at q
      refine r_ixS (by decide) (atI_nat (j := j) ec) ?_
      walk_at "r"
      exact ⟨w1, c, _, rfl, s2 _ _ h1, fun x hx => by have := c5 x hx; omega, by omega, fun H3 s3 => q _ (Same.trans s12 s3)⟩
def sp_standing_lines (K : PySem.W.Frag) : Sp := fun vs H Q E => ∃ (x : V) (d : PyData) (z0 : Addr), vs = [x] ∧ Dat K z0 H d x ∧ (∀ l, d = .str (S l) → l.length ≤ 50000) ∧
  (datTy d ≠ "str" → ∀ H' e, Same H H' → H e = none → H' e = some (.xd [("value", .int 0)]) → E (.ref (He.ga K "BadLaw")) (some e) H') ∧
  (∀ l n, d = .str (S l) → BadNo (cutL 10 l) n → ∀ H' e, Same H H' → H e = none → H' e = some (.xd [("value", .int (n : Nat))]) → E (.ref (He.ga K "BadLaw")) (some e) H') ∧
  (∀ l, d = .str (S l) → GoodAt (cutL 10 l) → ∀ H' p, Same H H' → H' p = some (.lst ((cutL 10 l).map fun l => V.str (S l))) → Q (.ref p) H')
theorem ok_standing_lines (T : Txt K mg) : Ok P w K mg base (L2.CX P w) (4) "standing_lines" s_standing_lines ["text"] (sp_standing_lines K) := by
  obtain ⟨fd, D⟩ := T.d_standing_lines
  refine ⟨⟨_, fd, T.g_standing_lines, D, D.bindsN (fun _ _ _ _ _ _ us hl => match us, hl with | [_], _ => rfl), ?_⟩⟩
  refine D.ok sc_standing_lines (fun vs H Q E h => ?_) (fun cdv A outer s H vs Q E hr h => ?_)
  · obtain ⟨x, d, z0, rfl, hd, hb, q0, q1, q2⟩ := h
    rfl
  · obtain ⟨x, d, z0, rfl, hd, hb, q0, q1, q2⟩ := h
    have F_is_head := ok_is_head (P := P) (w := w) (K := K) (mg := mg) (base := base) T
    have F_can_stand := ok_can_stand (P := P) (w := w) (K := K) (mg := mg) (base := base) T
    have F_last_word := ok_last_word (P := P) (w := w) (K := K) (mg := mg) (base := base) T
    refine ⟨_, (pss_cons (ps_if (pt_cmpR o_noT (pe_callTy call_type1 (by rfl) T.z_type (by decide +kernel) (pa_cons (pv 0) pa_nil)) (pe_bltn (v := .ty "str") (by rfl) T.z_str (by decide +kernel) rfl) (nomark _))
        (pss_one (ps_err T.e_BadLaw (ok_errI T) T.g_BadLaw hr rfl (takes_of rfl rfl rfl rfl) (by rfl) pe_int))
        pss_nil)
      (pss_cons (ps_set (i := 1) sc_standing_lines.nd rfl (by first | exact Or.inl rfl | exact Or.inr rfl) (pe_split (pv 0) (pe_strS [10] (by rfl))))
      (pss_cons (ps_set (i := 2) sc_standing_lines.nd rfl (by first | exact Or.inl rfl | exact Or.inr rfl) (pe_lst pa_nil))
      (pss_cons (ps_for (passes_of rfl) rfl (pi_enum (by rfl) T.z_enumerate (pa_cons (pv 1) pa_nil)) (pg_tup rfl (pgs_cons (pg_name (i := 3) sc_standing_lines.nd rfl (by first | exact Or.inl rfl | exact Or.inr rfl)) (pgs_cons (pg_name (i := 4) sc_standing_lines.nd rfl (by first | exact Or.inl rfl | exact Or.inr rfl)) pgs_nil)))
        (pss_cons (ps_if (pt_not (pt_val (pe_cl F_can_stand hr (by rfl) pass0 (pa_cons (pv 3) (pa_cons (pv 4) (pa_cons (pv 2) pa_nil))))))
        (pss_one (ps_err T.e_BadLaw (ok_errI T) T.g_BadLaw hr rfl (takes_of rfl rfl rfl rfl) (by rfl) (pe_op op_add (pv 3) pe_int)))
        pss_nil)
      (pss_one (ps_if (pt_val (pe_cl F_is_head hr (by rfl) pass0 (pa_cons (pv 3) pa_nil)))
        (pss_one (ps_expr (pe_bm PySem.F.plainAttrs_list PySem.F.slot_list_append PySem.F.type_list_append mt_append (pv 2) (pa_cons (pe_ix ix_list (pe_split (pv 4) (pe_strS [32] (by rfl))) pe_int (fun _ _ => rfl)) pa_nil))))
        pss_nil))))
      (pss_cons (ps_if (PW.pt (pw_or (pt_not (pt_truth (pv 2) (by intro _; rfl))) (pw_or1 (pt_cmpR op_ne (pe_callB k_lnQ (by rfl) T.z_len (by decide +kernel) (pa_cons (pv 1) pa_nil)) (pe_op op_add pe_int (pe_op op_mul (pe_callB k_lnQ (by rfl) T.z_len (by decide +kernel) (pa_cons (pv 2) pa_nil)) (pe_gint (by rfl) T.c_LINES_OF_A_STATE))) (nomark _)))))
        (pss_one (ps_err T.e_BadLaw (ok_errI T) T.g_BadLaw hr rfl (takes_of rfl rfl rfl rfl) (by rfl) (pe_op op_add (pe_callB k_lnQ (by rfl) T.z_len (by decide +kernel) (pa_cons (pv 1) pa_nil)) pe_int)))
        pss_nil)
      (pss_cons (ps_for (passes_of rfl) rfl (pi_enum (by rfl) T.z_enumerate (pa_cons (pv 1) pa_nil)) (pg_tup rfl (pgs_cons (pg_name (i := 3) sc_standing_lines.nd rfl (by first | exact Or.inl rfl | exact Or.inr rfl)) (pgs_cons (pg_name (i := 4) sc_standing_lines.nd rfl (by first | exact Or.inl rfl | exact Or.inr rfl)) pgs_nil)))
        (pss_one (ps_if (PW.pt (pw_and (pt_cmpR op_gt (pv 3) pe_int (nomark _)) (pw_and (pt_not (pt_val (pe_cl F_is_head hr (by rfl) pass0 (pa_cons (pv 3) pa_nil)))) (pw_and1 (pt_cmpR op_notIn_seq (pe_cl F_last_word hr (by rfl) pass0 (pa_cons (pv 4) pa_nil)) (pv 2) (by rfl))))))
        (pss_one (ps_err T.e_BadLaw (ok_errI T) T.g_BadLaw hr rfl (takes_of rfl rfl rfl rfl) (by rfl) (pe_op op_add (pv 3) pe_int)))
        pss_nil)))
      (pss_one (ps_ret (pv 1))))))))), ?_⟩
    walk_at "r"
    refine r_typ (dat_ty hd) ?_
    walk_at "r"
    by_cases ht : datTy d = "str"
    rotate_left
    · rw [decide_eq_false ht]
      walk_at "r"
      refine r_rz ?_
      walk_at "r"
      exact err_of T.e_BadLaw fun e he => q0 ht _ e (same_new he) he upd_same
    obtain ⟨z, rfl⟩ := ty_str ht
    obtain ⟨l, rfl⟩ : ∃ l, z = S l := ⟨_, S_of z⟩
    obtain rfl : x = .str (S l) := by unfold Dat at hd; exact hd.1
    have hl := hb l rfl
    obtain ⟨c1, _, _⟩ := cutL_ok 10 l
    obtain ⟨c4, c5⟩ := cutL_len 10 l
    have q1 := fun n => q1 l n rfl
    have q2 := q2 l rfl
    rw [show decide (datTy (PyData.str (S l)) = "str") = true from decide_eq_true rfl]
    walk_at "r"
    refine ⟨⟨_, rfl⟩, ?_⟩
    walk_at "r"
    refine ⟨_, _, rfl, rfl, rfl, by rw [S_len]; exact lt_line (by omega), ?_⟩
    rw [split_cut (by decide)]
    generalize cutL 10 l = ls at c1 c4 c5 q1 q2 ⊢
    refine r_newS fun H1 p1 s1 hp1 h1 => ?_
    walk_at "r"
    refine ⟨Nat.zero_le _, fun p2 hp2 => ?_⟩
    have hp20 : H p2 = none := same_free s1 hp2
    have n12 : p1 ≠ p2 := (fresh_ne hp2 h1).symm
    walk_at "r"
    refine ⟨p1, _, rfl, SqL.of (by rw [upd_ne n12]; exact h1), for_J (n := ls.length) (fun i σ X => ∃ y z, σ = [some (.str (S l)), some (.ref p1), some (.ref p2), y, z] ∧ Same H1 X ∧ X p2 = some (.lst ((nmsAt ls i).map fun l => V.str (S l))) ∧ OkTo ls i) ⟨_, _, rfl, same_new hp2, upd_same, fun j hj => by omega⟩ (fun i σ X hi v => ?_) (fun σ X v => ?_) ?_ ?_⟩
    · obtain ⟨y, z, rfl, s2, _⟩ := v
      exact ⟨_, V.str (S ls[i]), SqL.of (s2 _ _ h1), by rw [List.getElem?_map, List.getElem?_eq_getElem hi]; rfl⟩
    · obtain ⟨y, z, rfl, s2, _⟩ := v
      exact ⟨_, SqL.of (s2 _ _ h1), by rw [List.length_map]; exact Nat.le_refl _⟩
    · rintro i x σ H3 H4 hi ⟨y, z, rfl, s2, e2, ok⟩ ⟨T2, x1, rfl, hT, rfl, f1⟩
      have ex := f1 _ (SqL.of (s2 _ _ h1))
      have el : ls[i]? = some ls[i] := List.getElem?_eq_getElem hi
      have eln := lnAt_get el
      have hml := List.mem_of_getElem? el
      rw [List.getElem?_map, el] at ex
      obtain rfl : V.str (S ls[i]) = x1 := Option.some.inj ex
      generalize ls[i] = ln at el eln hml hT ⊢
      have hln := c5 ln hml
      refine r_gTup (SqT.of upd_same) rfl ?_
      have s3 := same_new hT (o := .tup [.int i, .str (S ln)])
      generalize upd H3 T2 (.tup [.int i, .str (S ln)]) = H5 at s3 ⊢
      walk_at "r"
      refine ⟨i, ln, p2, nmsAt ls i, rfl, by omega, s3 _ _ e2, fun H6 s4 => ?_⟩
      have sA := Same.trans s3 s4
      cases hb2 : lnB i ln (nmsAt ls i) with
      | false =>
        walk_at "r"
        refine r_rz ?_
        walk_at "r"
        refine err_of T.e_BadLaw fun e he => q1 _ (.a i hi ok (by rw [eln]; exact hb2)) _ e (Same.trans (Same.trans s1 s2) (Same.trans sA (same_new he))) (same_free (Same.trans (Same.trans s1 s2) sA) he) ?_
        rw [upd_same]
        rfl
      | true =>
        have ok' := ok.snoc (by rw [eln]; exact hb2)
        walk_at "r"
        refine ⟨i, rfl, fun H7 s5 => ?_⟩
        have sB := Same.trans sA s5
        walk_at "r"
        by_cases hm : i % 4 = 1
        · rw [decide_eq_true hm]
          walk_at "r"
          obtain ⟨nm, oft, ew, hnm, hnin, h64⟩ := lnB_head hm (names := nmsAt ls i) (by rw [eln]; exact hb2)
          rw [eln] at ew
          refine ⟨_, rfl, .inl ⟨rfl, _, SqL.of (sB _ _ e2)⟩, ?_⟩
          walk_at "r"
          refine ⟨⟨_, rfl⟩, ?_⟩
          walk_at "r"
          refine ⟨_, _, rfl, rfl, rfl, by rw [S_len]; exact lt_line (by omega), ?_⟩
          rw [split_cut (by decide), ew]
          refine r_newS fun H8 p3 s6 _ h8 => ?_
          walk_at "r"
          refine r_ixL (SqL.of h8) (words_at (j := 1) (stW_1 _)) ?_
          walk_at "r"
          have sC := Same.trans sB s6
          have e8 := sC _ _ e2
          refine ⟨p2, _, _, rfl, rfl, e8, by rw [List.length_map]; exact lt_line (by omega), ?_⟩
          walk_at "r"
          refine ⟨_, _, rfl, Same.mut (Same.trans s2 sC) hp2, ?_, ok'⟩
          rw [upd_same, nmsAt_head hm, eln, ew, List.map_append]
          cases oft <;> rfl
        · rw [decide_eq_false hm]
          walk_at "r"
          refine ⟨_, _, rfl, Same.trans s2 sB, ?_, ok'⟩
          rw [nmsAt_way hm]
          exact sB _ _ e2
    · rintro σ H3 ⟨y, z, rfl, s2, e2, ok⟩
      have s12 := Same.trans s1 s2
      walk_at "r"
      by_cases hnn : nmsAt ls ls.length = []
      · refine ⟨false, .inl ⟨_, SqL.of e2, by rw [hnn]; rfl⟩, ?_⟩
        walk_at "r"
        refine r_rz ?_
        walk_at "r"
        refine r_lnL (SqL.of (s2 _ _ h1)) ?_
        walk_at "r"
        refine err_of T.e_BadLaw fun e he => q1 _ (.b ok (.inl hnn)) _ e (Same.trans s12 (same_new he)) (same_free s12 he) ?_
        rw [upd_same, List.length_map]
        rfl
      refine ⟨true, .inl ⟨_, SqL.of e2, by cases hx : nmsAt ls ls.length with | nil => exact absurd hx hnn | cons _ _ => rfl⟩, ?_⟩
      walk_at "r"
      refine r_lnL (SqL.of (s2 _ _ h1)) ?_
      walk_at "r"
      refine r_lnL (SqL.of e2) ?_
      walk_at "r"
      refine ⟨_, _, rfl, rfl, .inr (by decide), ?_⟩
      walk_at "r"
      rw [List.length_map, List.length_map]
      by_cases hlen : ls.length = 1 + 4 * (nmsAt ls ls.length).length
      rotate_left
      · rw [decide_eq_false (fun z => hlen (by have := V.int.inj z; omega))]
        walk_at "r"
        refine r_rz ?_
        walk_at "r"
        refine r_lnL (SqL.of (s2 _ _ h1)) ?_
        walk_at "r"
        refine err_of T.e_BadLaw fun e he => q1 _ (.b ok (.inr hlen)) _ e (Same.trans s12 (same_new he)) (same_free s12 he) ?_
        rw [upd_same, List.length_map]
        rfl
      rw [decide_eq_true (congrArg V.int (by omega))]
      walk_at "r"
      refine ⟨p1, _, rfl, SqL.of (s2 _ _ h1), for_J (n := ls.length) (fun i σ X => ∃ y z, σ = [some (.str (S l)), some (.ref p1), some (.ref p2), y, z] ∧ Same H3 X ∧ TailOk ls i) ⟨_, _, rfl, Same.refl _, fun j hj => by omega⟩ (fun i σ X hi v => ?_) (fun σ X v => ?_) ?_ ?_⟩
      · obtain ⟨y, z, rfl, s3, _⟩ := v
        exact ⟨_, V.str (S ls[i]), SqL.of (s3 _ _ (s2 _ _ h1)), by rw [List.getElem?_map, List.getElem?_eq_getElem hi]; rfl⟩
      · obtain ⟨y, z, rfl, s3, _⟩ := v
        exact ⟨_, SqL.of (s3 _ _ (s2 _ _ h1)), by rw [List.length_map]; exact Nat.le_refl _⟩
      · rintro i x σ H4 H5 hi ⟨y, z, rfl, s3, tok⟩ ⟨T2, x1, rfl, hT, rfl, f1⟩
        have ex := f1 _ (SqL.of (s3 _ _ (s2 _ _ h1)))
        have el : ls[i]? = some ls[i] := List.getElem?_eq_getElem hi
        have eln := lnAt_get el
        have hml := List.mem_of_getElem? el
        rw [List.getElem?_map, el] at ex
        obtain rfl : V.str (S ls[i]) = x1 := Option.some.inj ex
        generalize ls[i] = ln at el eln hml hT ⊢
        have hln := c5 ln hml
        refine r_gTup (SqT.of upd_same) rfl ?_
        have s4 := Same.trans s3 (same_new hT (o := .tup [.int i, .str (S ln)]))
        generalize upd H4 T2 (.tup [.int i, .str (S ln)]) = H6 at s4 ⊢
        walk_at "r"
        by_cases h0 : i = 0
        · refine r_noD (by omega) ?_
          walk_at "r"
          exact ⟨_, _, rfl, s4, tok.snoc fun h => by omega⟩
        refine r_yesD (by omega) ?_
        walk_at "r"
        refine ⟨i, rfl, fun H7 s5 => ?_⟩
        walk_at "r"
        by_cases hm : i % 4 = 1
        · rw [decide_eq_true hm]
          walk_at "r"
          exact ⟨_, _, rfl, Same.trans s4 s5, tok.snoc fun _ h => absurd hm h⟩
        rw [decide_eq_false hm]
        walk_at "r"
        refine ⟨ln, rfl, by omega, fun H8 s6 => ?_⟩
        walk_at "r"
        have sA := Same.trans (Same.trans s4 s5) s6
        refine r_notInNm (.inl (SqL.of (sA _ _ e2))) ?_
        by_cases hin : (cutL 32 ln).getLastD [] ∈ nmsAt ls ls.length
        · rw [decide_eq_true hin]
          walk_at "r"
          exact ⟨_, _, rfl, sA, tok.snoc fun _ _ => by rw [eln]; exact hin⟩
        · rw [decide_eq_false hin]
          walk_at "r"
          refine r_rz ?_
          walk_at "r"
          refine err_of T.e_BadLaw fun e he => q1 _ (.c i ok hnn hlen hi tok (by omega) hm (by rw [eln]; exact hin)) _ e (Same.trans (Same.trans s12 sA) (same_new he)) (same_free (Same.trans s12 sA) he) ?_
          rw [upd_same]
          rfl
      · rintro σ H4 ⟨y, z, rfl, s3, tok⟩
        walk_at "r"
        exact q2 ⟨ok, hnn, hlen, tok⟩ _ p1 (Same.trans s12 s3) (s3 _ _ (s2 _ _ h1))

def sp_steps_of (K : PySem.W.Frag) : Sp := fun vs H Q _ => ∃ a rs, vs = [.ref a] ∧ H a = some (.lst ((linesF rs).map fun l => V.str (S l))) ∧ LawG rs ∧ ∀ H' p, Same H H' → WaysAt H' p rs → Q (.ref p) H'
theorem ok_steps_of (T : Txt K mg) : Ok P w K mg base CX0 (2) "steps_of" s_steps_of ["lines"] (sp_steps_of K) := by
  obtain ⟨fd, D⟩ := T.d_steps_of
  refine ⟨⟨_, fd, T.g_steps_of, D, D.bindsN (fun _ _ _ _ _ _ us hl => match us, hl with | [_], _ => rfl), ?_⟩⟩
  refine D.ok sc_steps_of (fun vs H Q E h => ?_) (fun cdv A outer s H vs Q E hr h => ?_)
  · obtain ⟨a, rs, rfl, ha, hg, q⟩ := h
    rfl
  · obtain ⟨a, rs, rfl, ha, hg, q⟩ := h
    have F_last_word := ok_last_word (P := P) (w := w) (K := K) (mg := mg) (base := base) T
    refine ⟨_, PSs.nox (pss_cons (ps_set (i := 1) sc_steps_of.nd rfl (by first | exact Or.inl rfl | exact Or.inr rfl) pe_dnewK)
      (pss_cons (ps_for PassesOwn.never rfl (pi_range3 (by rfl) T.z_range (pa_cons pe_int (pa_cons (pe_callB k_lnQ (by rfl) T.z_len (by decide +kernel) (pa_cons (pv 0) pa_nil)) (pa_cons (pe_gint (by rfl) T.c_LINES_OF_A_STATE) pa_nil)))) (pg_name (i := 2) sc_steps_of.nd rfl (by first | exact Or.inl rfl | exact Or.inr rfl))
        (pss_cons (ps_set (i := 3) sc_steps_of.nd rfl (by first | exact Or.inl rfl | exact Or.inr rfl) (pe_ix ix_list (pe_split (pe_ix ix_list (pv 0) (pv 2) (fun _ _ => rfl)) (pe_strS [32] (by rfl))) pe_int (fun _ _ => rfl)))
      (pss_one (ps_dput (hu_of hr) (pv 1) (pv 3) (pe_dc (own := [("k", 4), ("fate", 5)]) (g := gTup K 2 (gCons (gName 4) (gCons (gName 5) gNil))) (tt := tYes) rfl sc_steps_of.nd (pi_enumX (by rfl) T.z_enumerate (pa_cons (pe_gstrS [110, 102, 115] (by rfl) (by rfl) T.c_FATES) pa_nil) (pk_cons pe_int pk_nil)) (blkOk_by (N := ["lines", "steps", "at", "name", "k", "fate"]) (sc := defScope s_steps_of) (by decide +kernel)) (fun _ _ _ _ _ => (pg_tup rfl (pgs_cons (pg_name (i := 4) sc_steps_of.nd rfl (by first | exact Or.inl rfl | exact Or.inr rfl)) (pgs_cons (pg_name (i := 5) sc_steps_of.nd rfl (by first | exact Or.inl rfl | exact Or.inr rfl)) pgs_nil)))) (fun _ _ _ _ _ => pts_nil) (fun _ _ _ _ _ => (pv 5)) (fun _ _ _ _ _ => (pe_cl F_last_word hr (by rfl) pass0 (pa_cons (pe_ix (show IxR _ (rIxL K) from ix_list) (pv 0) (pe_op op_add (pv 2) (pv 4)) (fun _ _ => rfl)) pa_nil)))) (by rfl)))))
      (pss_one (ps_ret (pv 1))))), ?_⟩
    have hln := hg.len
    walk_at "r"
    have N := linesF_len (rs := rs)
    intro p1 hp1
    have n1 : a ≠ p1 := (fresh_ne hp1 ha).symm
    have hls : ∀ H', Same H H' → SqL K H' a ((linesF rs).map fun l => V.str (S l)) := fun H' e => SqL.of (e _ _ ha)
    walk_at "r"
    refine r_lnL (hls _ (same_new hp1)) ?_
    walk_at "r"
    refine ⟨_, _, _, rs.length, rfl, by rw [List.length_map, N]; exact rg4 hln, for_rangeC (fun i σ H' => ∃ y z t u kvs, σ = [some (.ref a), some (.ref p1), y, z, t, u] ∧ Same H H' ∧ H' p1 = some (.dK kvs) ∧ Paired (WRow H') (rs.take i) kvs) ⟨_, _, _, _, [], rfl, same_new hp1, upd_same, .nil⟩ ?_ ?_⟩
    · rintro i σ H1 hi ⟨y, z, t, u, kvs, rfl, s1, e1, hk⟩
      walk_at "r"
      have er : rs[i]? = some rs[i] := List.getElem?_eq_getElem hi
      generalize rs[i] = r at er
      have hr := List.mem_of_getElem? er
      rw [show (1 + (i : Int) * 4) = ((4 * i + 1 : Nat) : Int) by omega]
      refine r_ixL (hls _ s1) (words_at (lines_head er)) ?_
      walk_at "r"
      refine ⟨⟨_, rfl⟩, ?_⟩
      walk_at "r"
      have hz := line_short hg (List.mem_of_getElem? (lines_head er))
      refine ⟨_, _, rfl, rfl, rfl, by rw [S_len]; exact lt_line (by omega), ?_⟩
      rw [stL_split (hg.nm r hr)]
      refine r_newS fun H2 p3 s2 _ h2 => ?_
      walk_at "r"
      refine r_ixL (SqL.of h2) (words_at (j := 1) (stW_1 r)) ?_
      walk_at "r"
      refine ⟨_, _, rfl, rfl, by decide, by decide, fun D hD => dc_enS (fun j H' => Same H2 H' ∧ H' D = some (.dK ((([110, 102, 115] : List Nat).take j).map fun c => (Sum.inr (S [c]), V.str (S (r.way c)))))) ⟨same_new hD, upd_same⟩ ?_ ?_⟩
      · rintro j c H3 T ec ⟨s3, e3⟩ hT
        have hj : j < 3 := (List.getElem?_eq_some_iff.mp ec).1
        refine r_gTup (SqT.of upd_same) rfl ?_
        have s4 := same_new hT (o := .tup [.int (1 + j), .str (S [c])])
        have e4 := s4 _ _ e3
        generalize upd H3 T (.tup [.int (1 + j), .str (S [c])]) = H4 at s4 e4 ⊢
        walk_at "r"
        refine ⟨rfl, ?_⟩
        walk_at "r"
        rw [show ((4 * i + 1 : Nat) : Int) + (1 + (j : Int)) = ((4 * i + 1 + (1 + j) : Nat) : Int) by omega]
        have sA := Same.trans (Same.trans (Same.trans s1 s2) s3) s4
        refine r_ixL (hls _ sA) (words_at (lines_on er ec)) ?_
        walk_at "r"
        have hc : c = 110 ∨ c = 102 ∨ c = 115 := by have := List.mem_of_getElem? ec; simpa using this
        refine ⟨_, rfl, by have := line_short hg (List.mem_of_getElem? (lines_on er ec)); omega, fun H5 s5 => ?_⟩
        rw [last_onL hc (hg.way hr hc)]
        refine ⟨_, .inr (S [c]), rfl, s5 _ _ e4, by rw [List.length_map, List.length_take]; exact lt_line (by omega), Same.mut (Same.trans (Same.trans s3 s4) s5) hD, ?_⟩
        rw [upd_same, nfs_new ec]
      · rintro H3 ⟨s3, e3⟩
        walk_at "r"
        have sA := Same.trans s2 s3
        have eP := sA _ _ e1
        have hlk : kvs.length ≤ 64 := by have := hk.length; rw [List.length_take] at this; omega
        refine ⟨p1, _, rfl, DPut.k (k := .inr (S r.nm)) eP (lt_line (by omega)), ?_⟩
        walk_at "r"
        have sB := Same.trans s1 sA
        refine ⟨_, _, _, _, _, rfl, Same.mut sB hp1, by rw [upd_same], ?_⟩
        rw [ways_new hg.u hk er, take_snoc' er]
        have keep : ∀ d x, d ≠ p1 → H3 d = some x → (upd H3 p1 (.dK (kvs ++ [(.inr (S r.nm), .ref D)]))) d = some x := fun d x hd e => (upd_ne hd).trans e
        have hDp : D ≠ p1 := fresh_ne hD (s2 _ _ e1)
        refine (hk.mono fun b kv h => ?_).snoc ⟨D, rfl, keep D _ hDp e3⟩
        obtain ⟨d, h1, h2⟩ := h
        exact ⟨d, h1, keep d _ (ways_not hk e1 h2) (sA _ _ h2)⟩
    · rintro σ H1 ⟨y, z, t, u, kvs, rfl, s1, e1, hk⟩
      walk_at "r"
      rw [List.take_length] at hk
      exact q _ _ s1 ⟨kvs, e1, hk⟩
def sp_Law_init (K : PySem.W.Frag) : Sp := fun vs H Q E => ∃ (x dx : Addr) (v : V) (d : PyData) (z0 : Addr), vs = [.ref x, v] ∧ H x = some (.ins (He.ga K "Law") dx []) ∧ Dat K z0 H d v ∧ (∀ l, d = .str (S l) → l.length ≤ 50000) ∧
  (datTy d ≠ "str" → ∀ H' e, Same H H' → H e = none → H' e = some (.xd [("value", .int 0)]) → E (.ref (He.ga K "BadLaw")) (some e) H') ∧
  (∀ l n, d = .str (S l) → BadNo (cutL 10 l) n → ∀ H' e, Same H H' → H e = none → H' e = some (.xd [("value", .int (n : Nat))]) → E (.ref (He.ga K "BadLaw")) (some e) H') ∧
  (∀ l, d = .str (S l) → GoodAt (cutL 10 l) → ∀ H', But x H H' → RuleAt (He.ga K "Law") H' x (rowsOf (cutL 10 l)) → Q .non H')
theorem ok_Law_initK (T : Txt K mg) : OkMD P w K mg base (L2.CX P w) (5) "Law" "__init__" "Law.__init__" s_Law_init ["self", "text"] (sp_Law_init K) := by
  obtain ⟨fd, D⟩ := T.d_Law_init
  refine ⟨⟨fd, D, D.bindsN (fun _ _ _ _ _ _ us hl => match us, hl with | [_, _], _ => rfl), ?_⟩⟩
  refine D.ok sc_Law_init (fun vs H Q E h => ?_) (fun cdv A outer s H vs Q E hr h => ?_)
  · obtain ⟨x, dx, v, d, z0, rfl, hx, hdat, hbnd, w0, w1, w2⟩ := h
    rfl
  · obtain ⟨x, dx, v, d, z0, rfl, hx, hdat, hbnd, w0, w1, w2⟩ := h
    have F_standing_lines := ok_standing_lines (P := P) (w := w) (K := K) (mg := mg) (base := base) T
    have F_steps_of := ok_steps_of (P := P) (w := w) (K := K) (mg := mg) (base := base) T
    refine ⟨_, (pss_cons (ps_set (i := 2) sc_Law_init.nd rfl (by first | exact Or.inl rfl | exact Or.inr rfl) (pe_cl F_standing_lines hr (by rfl) (passes_call (takes_of rfl rfl rfl rfl) fun _ _ _ _ h => h) (pa_cons (pv 1) pa_nil)))
      (pss_cons (ps_setLc (i := 3) (own := [("line", 4)]) (g := gName 4) (tt := tYes) rfl sc_Law_init.nd rfl rfl (sw_true rfl rfl rfl rfl) (pi_list (pe_sliceS (pv 2) (po_some pe_int) po_none (po_some (pe_gint (by rfl) T.c_LINES_OF_A_STATE)))) (blkOk_by (N := ["self", "text", "lines", "heads", "line", "words"]) (sc := defScope s_Law_init) (by decide +kernel)) (fun _ _ _ _ _ => (pg_name (i := 4) sc_Law_init.nd rfl (by first | exact Or.inl rfl | exact Or.inr rfl))) (fun _ _ _ _ _ => pts_nil) (fun _ _ _ _ _ => (pe_split (pv 4) (pe_strS [32] (by rfl)))))
      (pss_cons (ps_fld (pv 0) (pv 1) rfl)
      (pss_cons (ps_fld (pv 0) (pe_tupleOf (by rfl) T.z_tuple (pe_lc (own := [("words", 5)]) (g := gName 5) (tt := tYes) rfl sc_Law_init.nd (pi_list (pv 3)) (blkOk_by (N := ["self", "text", "lines", "heads", "line", "words"]) (sc := defScope s_Law_init) (by decide +kernel)) (fun _ _ _ _ _ => (pg_name (i := 5) sc_Law_init.nd rfl (by first | exact Or.inl rfl | exact Or.inr rfl))) (fun _ _ _ _ _ => pts_nil) (fun _ _ _ _ _ => (pe_ix (show IxR _ (rIxL K) from ix_list) (pv 5) pe_int (fun _ _ => rfl))))) rfl)
      (pss_cons (ps_fld (pv 0) (pe_tupleOf (by rfl) T.z_tuple (pe_lc (own := [("words", 5)]) (g := gName 5) rfl sc_Law_init.nd (pi_list (pv 3)) (blkOk_by (N := ["self", "text", "lines", "heads", "line", "words"]) (sc := defScope s_Law_init) (by decide +kernel)) (fun _ _ _ _ _ => (pg_name (i := 5) sc_Law_init.nd rfl (by first | exact Or.inl rfl | exact Or.inr rfl))) (fun _ _ _ _ _ => (pts_one (pt_cmpR op_eq (pe_callB (show CallR _ _ (rLnQ K) from k_lnQ) (by rfl) T.z_len (by decide +kernel) (pa_cons (pv 5) pa_nil)) pe_int (nomark _)))) (fun _ _ _ _ _ => (pe_ix (show IxR _ (rIxL K) from ix_list) (pv 5) pe_int (fun _ _ => rfl))))) rfl)
      (pss_cons (ps_fld (pv 0) (pe_dc (own := [("words", 5)]) (g := gName 5) (tt := tYes) rfl sc_Law_init.nd (pi_list (pv 3)) (blkOk_by (N := ["self", "text", "lines", "heads", "line", "words"]) (sc := defScope s_Law_init) (by decide +kernel)) (fun _ _ _ _ _ => (pg_name (i := 5) sc_Law_init.nd rfl (by first | exact Or.inl rfl | exact Or.inr rfl))) (fun _ _ _ _ _ => pts_nil) (fun _ _ _ _ _ => (pe_ix (show IxR _ (rIxL K) from ix_list) (pv 5) pe_int (fun _ _ => rfl))) (fun _ _ _ _ _ => (pe_cmpR op_eq (pe_callB (show CallR _ _ (rLnQ K) from k_lnQ) (by rfl) T.z_len (by decide +kernel) (pa_cons (pv 5) pa_nil)) pe_int (nomark _)))) rfl)
      (pss_one (ps_fld (pv 0) (pe_cl F_steps_of hr (by rfl) pass0 (pa_cons (pv 2) pa_nil)) rfl)))))))), ?_⟩
    walk_at "r"
    refine ⟨v, d, z0, rfl, hdat, hbnd, w0, w1, fun l hdl hgood H1 p1 s1 h1 => ?_⟩
    subst hdl
    obtain rfl : v = .str (S l) := by unfold Dat at hdat; exact hdat.1
    have hg := good_law hgood
    have hlines := good_lines hgood
    have q := w2 l rfl hgood
    have etext : S l = textF (rowsOf (cutL 10 l)) := by
      unfold textF
      rw [← hlines, join_SP, (cutL_ok 10 l).2.2]
    rw [hlines] at h1
    rw [etext]
    generalize rowsOf (cutL 10 l) = rs at hg q h1 ⊢
    clear hlines etext hgood w0 w1 w2 hbnd hdat
    have hln := hg.len
    walk_at "r"
    refine ⟨p1, _, rfl, SqL.of h1, by decide, fun p2 hp2 => ?_⟩
    rw [heads_pick hln]
    have s2 := Same.trans s1 (same_new hp2 (o := .lst (rs.map fun r => V.str (S (stL r)))))
    have h2 : (upd H1 p2 (.lst (rs.map fun r => V.str (S (stL r))))) p2 = some (.lst (rs.map fun r => V.str (S (stL r)))) := upd_same
    have g1 := (same_new hp2 (o := .lst (rs.map fun r => V.str (S (stL r))))) _ _ h1
    generalize upd H1 p2 (.lst (rs.map fun r => V.str (S (stL r)))) = H2 at s2 h2 g1 ⊢
    refine ⟨p2, rfl, ⟨_, SqL.of h2⟩, fun D hD => lc_list (K := K) (a := p2) (xs := rs.map fun r => V.str (S (stL r))) (fun i X => Same H2 X ∧ ∃ ps : List Addr, X D = some (.lst (ps.map V.ref)) ∧ Paired (fun r p => p ≠ D ∧ X p = some (.lst ((stW r).map fun l => V.str (S l)))) (rs.take i) ps) ⟨same_new hD, [], upd_same, .nil⟩ (fun i X _ h => SqL.of (h.1 _ _ h2)) ?_ ?_⟩
    · intro i v X ev ⟨s3, ps, e3, hps⟩
      rw [List.getElem?_map] at ev
      obtain ⟨r, er, rfl⟩ := Option.map_eq_some_iff.mp ev
      have hi : i < rs.length := (List.getElem?_eq_some_iff.mp er).1
      have hz := line_short hg (List.mem_of_getElem? (lines_head er))
      walk_at "r"
      refine ⟨rfl, ?_⟩
      walk_at "r"
      refine ⟨⟨_, rfl⟩, ?_⟩
      walk_at "r"
      refine ⟨_, _, rfl, rfl, rfl, by rw [S_len]; exact lt_line (by omega), ?_⟩
      rw [stL_split (hg.nm r (List.mem_of_getElem? er))]
      refine r_newS fun X4 p4 s4 hp4 h4 => ?_
      have n4 : p4 ≠ D := fresh_ne hp4 e3
      have hl := hps.length
      rw [List.length_take] at hl
      refine ⟨_, s4 _ _ e3, by rw [List.length_map]; exact lt_line (by omega), Same.mut (Same.trans s3 s4) hD, ps ++ [p4], by rw [upd_same, List.map_append]; rfl, ?_⟩
      rw [take_snoc' er]
      exact (hps.mono fun b p h => ⟨h.1, (upd_ne h.1).trans (s4 _ _ h.2)⟩).snoc ⟨n4, (upd_ne n4).trans h4⟩
    intro H3 ⟨s3, ps, e3, hps⟩
    rw [List.length_map, List.take_length] at hps
    have sA := Same.trans s2 s3
    have hxx := sA _ _ hx
    have hD0 : H D = none := same_free s2 hD
    have nDx : D ≠ x := fun z => by subst z; rw [hx] at hD0; cases hD0
    have npx : ∀ b p, H3 p = some (.lst b) → p ≠ x := fun b p h z => by subst z; rw [hxx] at h; cases h
    walk_at "r"
    refine ⟨x, _, dx, [], rfl, hxx, T.cl_Law, T.na_Law_text, by decide, ?_⟩
    walk_at "r"
    have M3 : IniC x D p1 ps rs H H3 := ⟨But.of sA, e3, hps.mono fun _ _ h => h.2, s3 _ _ g1⟩
    have hpl : rs.length = ps.length := hps.length
    have M4 := M3.put (gs := putF "text" (.str (textF rs)) []) hxx
    have x4 : (upd H3 x (.ins (He.ga K "Law") dx (putF "text" (.str (textF rs)) []))) x = some (.ins (He.ga K "Law") dx (putF "text" (.str (textF rs)) [])) := upd_same
    generalize upd H3 x (.ins (He.ga K "Law") dx (putF "text" (.str (textF rs)) [])) = H4 at M4 x4 ⊢
    refine ⟨D, rfl, ⟨_, SqL.of M4.d⟩, fun E2 hE2 => lc_list (K := K) (a := D) (xs := ps.map V.ref) (fun i X => Same H4 X ∧ X E2 = some (.lst (((rs.take i).map (·.nm)).map fun l => V.str (S l)))) ⟨same_new hE2, upd_same⟩ (fun i X _ h => SqL.of (h.1 _ _ M4.d)) ?_ ?_⟩
    · rintro i v X ev ⟨s5, e5⟩
      rw [List.getElem?_map] at ev
      obtain ⟨p, ep, rfl⟩ := Option.map_eq_some_iff.mp ev
      obtain ⟨r, er, hr⟩ := paired_get M4.h ep
      have hi : i < rs.length := (List.getElem?_eq_some_iff.mp er).1
      walk_at "r"
      refine ⟨rfl, ?_⟩
      walk_at "r"
      refine r_ixL (SqL.of (s5 _ _ hr)) (words_at (j := 1) (stW_1 r)) ?_
      refine ⟨_, e5, by rw [List.length_map, List.length_map, List.length_take]; exact lt_line (by omega), Same.mut s5 hE2, ?_⟩
      rw [upd_same, take_snoc' er, List.map_append, List.map_append]
      rfl
    rintro H5 ⟨s5, e5⟩
    rw [List.length_map, ← hpl, List.take_length] at e5
    walk_at "r"
    refine .inl ⟨E2, _, rfl, SqL.of e5, fun n hn => ?_⟩
    have s6 := Same.trans s5 (same_new hn (o := .tup ((rs.map (·.nm)).map fun l => V.str (S l))))
    have M6 := M4.same s6
    have x6 := s6 _ _ x4
    have n6 : (upd H5 n (.tup ((rs.map (·.nm)).map fun l => V.str (S l)))) n = some (.tup ((rs.map (·.nm)).map fun l => V.str (S l))) := upd_same
    generalize upd H5 n (.tup ((rs.map (·.nm)).map fun l => V.str (S l))) = H6 at s6 M6 x6 n6 ⊢
    walk_at "r"
    refine ⟨x, _, dx, _, rfl, x6, T.cl_Law, T.na_Law_names, (len_fs _ _ (Nat.zero_le 0) (by decide)).2, ?_⟩
    have nnx : n ≠ x := fun z => by subst z; rw [x6] at n6; cases n6
    walk_at "r"
    have M7 := M6.put (gs := putF "names" (.ref n) (putF "text" (.str (textF rs)) [])) x6
    have x7 : (upd H6 x (.ins (He.ga K "Law") dx (putF "names" (.ref n) (putF "text" (.str (textF rs)) [])))) x = some (.ins (He.ga K "Law") dx (putF "names" (.ref n) (putF "text" (.str (textF rs)) []))) := upd_same
    have n7 := (upd_ne (H := H6) (b := n) (o := .ins (He.ga K "Law") dx (putF "names" (.ref n) (putF "text" (.str (textF rs)) []))) nnx).trans n6
    generalize upd H6 x (.ins (He.ga K "Law") dx (putF "names" (.ref n) (putF "text" (.str (textF rs)) []))) = H7 at M7 x7 n7 ⊢
    refine ⟨D, rfl, ⟨_, SqL.of M7.d⟩, fun E3 hE3 => lc_list (K := K) (a := D) (xs := ps.map V.ref) (fun i X => Same H7 X ∧ X E3 = some (.lst ((oftens (rs.take i)).map fun l => V.str (S l)))) ⟨same_new hE3, upd_same⟩ (fun i X _ h => SqL.of (h.1 _ _ M7.d)) ?_ ?_⟩
    · rintro i v X ev ⟨s8, e8⟩
      rw [List.getElem?_map] at ev
      obtain ⟨p, ep, rfl⟩ := Option.map_eq_some_iff.mp ev
      obtain ⟨r, er, hr⟩ := paired_get M7.h ep
      have hi : i < rs.length := (List.getElem?_eq_some_iff.mp er).1
      walk_at "r"
      refine ⟨rfl, ?_⟩
      walk_at "r"
      refine r_lnL (SqL.of (s8 _ _ hr)) ?_
      walk_at "r"
      rw [stW_len]
      cases ho : r.oft
      · walk_at "r"
        refine ⟨s8, ?_⟩
        rw [e8, take_snoc' er, oftens_snoc, ho, if_neg Bool.false_ne_true, List.append_nil]
      · walk_at "r"
        refine r_ixL (SqL.of (s8 _ _ hr)) (words_at (j := 1) (stW_1 r)) ?_
        refine ⟨_, e8, ?_, Same.mut s8 hE3, ?_⟩
        · rw [List.length_map]
          unfold oftens
          rw [List.length_map]
          have := List.length_filter_le (·.oft) (rs.take i)
          rw [List.length_take] at this
          exact lt_line (by omega)
        · rw [upd_same, take_snoc' er, oftens_snoc, ho, if_pos rfl, List.map_append]
          rfl
    rintro H8 ⟨s8, e8⟩
    rw [List.length_map, ← hpl, List.take_length] at e8
    walk_at "r"
    refine .inl ⟨E3, _, rfl, SqL.of e8, fun o hO => ?_⟩
    have s9 := Same.trans s8 (same_new hO (o := .tup ((oftens rs).map fun l => V.str (S l))))
    have M9 := M7.same s9
    have x9 := s9 _ _ x7
    have n9 := s9 _ _ n7
    have o9 : (upd H8 o (.tup ((oftens rs).map fun l => V.str (S l)))) o = some (.tup ((oftens rs).map fun l => V.str (S l))) := upd_same
    generalize upd H8 o (.tup ((oftens rs).map fun l => V.str (S l))) = H9 at s9 M9 x9 n9 o9 ⊢
    walk_at "r"
    have l1 := (len_fs "text" (.str (textF rs)) (fs := []) (Nat.zero_le 0) (by decide)).1
    have l2 := (len_fs "names" (.ref n) l1 (by decide)).1
    have l3 := (len_fs "often" (.ref o) l2 (by decide)).1
    have l4 := fun m => (len_fs "marked" (.ref m) l3 (by decide)).1
    refine ⟨x, _, dx, _, rfl, x9, T.cl_Law, T.na_Law_often, by omega, ?_⟩
    have nox : o ≠ x := fun z => by subst z; rw [x9] at o9; cases o9
    walk_at "r"
    have M10 := M9.put (gs := putF "often" (.ref o) (putF "names" (.ref n) (putF "text" (.str (textF rs)) []))) x9
    have x10 : (upd H9 x (.ins (He.ga K "Law") dx (putF "often" (.ref o) (putF "names" (.ref n) (putF "text" (.str (textF rs)) []))))) x = some (.ins (He.ga K "Law") dx (putF "often" (.ref o) (putF "names" (.ref n) (putF "text" (.str (textF rs)) [])))) := upd_same
    have n10 := (upd_ne (H := H9) (b := n) (o := .ins (He.ga K "Law") dx (putF "often" (.ref o) (putF "names" (.ref n) (putF "text" (.str (textF rs)) [])))) nnx).trans n9
    have o10 := (upd_ne (H := H9) (b := o) (o := .ins (He.ga K "Law") dx (putF "often" (.ref o) (putF "names" (.ref n) (putF "text" (.str (textF rs)) [])))) nox).trans o9
    generalize upd H9 x (.ins (He.ga K "Law") dx (putF "often" (.ref o) (putF "names" (.ref n) (putF "text" (.str (textF rs)) [])))) = H10 at M10 x10 n10 o10 ⊢
    refine ⟨D, rfl, ⟨_, SqL.of M10.d⟩, fun E4 hE4 => dc_list (K := K) (a := D) (xs := ps.map V.ref) (fun i X => Same H10 X ∧ X E4 = some (.dK ((rs.take i).map fun r => (.inr (S r.nm), .bl r.oft)))) ⟨same_new hE4, upd_same⟩ (fun i X h => SqL.of (h.1 _ _ M10.d)) ?_ ?_⟩
    · rintro i v X ev ⟨s11, e11⟩
      rw [List.getElem?_map] at ev
      obtain ⟨p, ep, rfl⟩ := Option.map_eq_some_iff.mp ev
      obtain ⟨r, er, hr⟩ := paired_get M10.h ep
      have hi : i < rs.length := (List.getElem?_eq_some_iff.mp er).1
      walk_at "r"
      refine ⟨rfl, ?_⟩
      walk_at "r"
      refine r_ixL (SqL.of (s11 _ _ hr)) (words_at (j := 1) (stW_1 r)) ?_
      walk_at "r"
      refine r_lnL (SqL.of (s11 _ _ hr)) ?_
      walk_at "r"
      rw [stW_len]
      refine ⟨_, .inr (S r.nm), rfl, e11, by rw [List.length_map, List.length_take]; exact lt_line (by omega), Same.mut s11 hE4, ?_⟩
      rw [upd_same, mark_new hg.u er, take_snoc' er, List.map_append]
      rfl
    rintro H11 ⟨s11, e11⟩
    rw [List.length_map, ← hpl, List.take_length] at e11
    have M11 := M10.same s11
    have x11 := s11 _ _ x10
    have n11 := s11 _ _ n10
    have o11 := s11 _ _ o10
    walk_at "r"
    refine ⟨x, _, dx, _, rfl, x11, T.cl_Law, T.na_Law_marked, by omega, ?_⟩
    have nmx : E4 ≠ x := fun z => by subst z; rw [x11] at e11; cases e11
    walk_at "r"
    have M12 := M11.put (gs := putF "marked" (.ref E4) (putF "often" (.ref o) (putF "names" (.ref n) (putF "text" (.str (textF rs)) [])))) x11
    have x12 : (upd H11 x (.ins (He.ga K "Law") dx (putF "marked" (.ref E4) (putF "often" (.ref o) (putF "names" (.ref n) (putF "text" (.str (textF rs)) [])))))) x = some (.ins (He.ga K "Law") dx (putF "marked" (.ref E4) (putF "often" (.ref o) (putF "names" (.ref n) (putF "text" (.str (textF rs)) []))))) := upd_same
    have k12 : ∀ b u, b ≠ x → H11 b = some u → (upd H11 x (.ins (He.ga K "Law") dx (putF "marked" (.ref E4) (putF "often" (.ref o) (putF "names" (.ref n) (putF "text" (.str (textF rs)) [])))))) b = some u := fun b u nb e => (upd_ne nb).trans e
    generalize upd H11 x (.ins (He.ga K "Law") dx (putF "marked" (.ref E4) (putF "often" (.ref o) (putF "names" (.ref n) (putF "text" (.str (textF rs)) []))))) = H12 at M12 x12 k12 ⊢
    refine ⟨p1, rs, rfl, M12.l, hg, fun H13 st s13 hW => ?_⟩
    walk_at "r"
    have x13 := s13 _ _ x12
    refine ⟨x, _, dx, _, rfl, x13, T.cl_Law, T.na_Law_steps, by have := l4 E4; omega, ?_⟩
    walk_at "r"
    rw [law_fields]
    have M13 := M12.same s13
    refine q _ M13.b.put ⟨dx, n, o, E4, st, upd_same, (upd_ne nnx).trans (s13 _ _ (k12 _ _ nnx n11)), (upd_ne nox).trans (s13 _ _ (k12 _ _ nox o11)), (upd_ne nmx).trans (s13 _ _ (k12 _ _ nmx e11)), ?_⟩
    obtain ⟨kvs, hk, hp⟩ := hW
    have nsx : ∀ d ys, H13 d = some (.dK ys) → d ≠ x := fun d ys h z => by subst z; rw [x13] at h; cases h
    refine ⟨kvs, (upd_ne (nsx _ _ hk)).trans hk, hp.mono fun r kv h => ?_⟩
    obtain ⟨d, h1, h2⟩ := h
    exact ⟨d, h1, (upd_ne (nsx _ _ h2)).trans h2⟩

theorem ok_Law_init (T : Txt K mg) : OkM P w K mg base (L2.CX P w) (5) "Law" "__init__" ["self", "text"] (sp_Law_init K) := (ok_Law_initK T).m

theorem chr_lt (a b : Nat) : ((S [a]).cps.toList < (S [b]).cps.toList) ↔ a < b := by
  show [a] < [b] ↔ a < b
  rw [List.cons_lt_cons_iff]
  simp
def sp_Llaw_is_name (K : PySem.W.Frag) : Sp := fun vs H Q _ => ∃ l : List Nat, vs = [.str (S l)] ∧ l.length ≤ 100000 ∧ ∀ H', Same H H' → Q (.bl (nmB l)) H'
theorem ok_Llaw_is_name (T : Txt K mg) : Ok P w K mg base CX0 (1) "_law_law_is_name" s_Llaw_is_name ["value"] (sp_Llaw_is_name K) := by
  obtain ⟨fd, D⟩ := T.d_Llaw_is_name
  refine ⟨⟨_, fd, T.g__law_law_is_name, D, D.bindsN (fun _ _ _ _ _ _ us hl => match us, hl with | [_], _ => rfl), ?_⟩⟩
  refine D.ok sc_Llaw_is_name (fun vs H Q E h => ?_) (fun cdv A outer s H vs Q E hr h => ?_)
  · obtain ⟨l, rfl, hl, q⟩ := h
    rfl
  · obtain ⟨l, rfl, hl, q⟩ := h
    refine ⟨_, PSs.nox (pss_one (ps_ret (pe_and (pe_callB call_isi (by rfl) T.z_isinstance (by decide +kernel) (pa_cons (pv 0) (pa_cons (pe_bltn (v := .ty "str") (by rfl) T.z_str (by decide +kernel) rfl) pa_nil))) (pe_and (pe_chain op_le op_le pe_int (pe_callB k_lnS (by rfl) T.z_len (by decide +kernel) (pa_cons (pv 0) pa_nil)) pe_int) (pe_one (pe_callB (cr_all rfl) (by rfl) T.z_all (by decide +kernel) (pa_cons (pe_lc (own := [("sign", 1)]) (g := gName 1) (tt := tYes) rfl sc_Llaw_is_name.nd (pi_str (pv 0)) (blkOk_by (N := ["value", "sign"]) (sc := defScope s_Llaw_is_name) (by decide +kernel)) (fun _ _ _ _ _ => (pg_name (i := 1) sc_Llaw_is_name.nd rfl (by first | exact Or.inl rfl | exact Or.inr rfl))) (fun _ _ _ _ _ => pts_nil) (fun _ _ _ _ _ => (pe_chain op_le_str op_le_str (pe_strS [97] (by rfl)) (pv 1) (pe_strS [122] (by rfl))))) pa_nil))))))), ?_⟩
    walk_at "r"
    refine r_lnT (l := l) (by omega) ?_
    walk_at "r"
    unfold nmB at q
    by_cases h1 : 1 ≤ l.length
    rotate_left
    · rw [decide_eq_false (by omega)]
      walk_at "r"
      have := q _ (Same.refl _)
      rw [decide_eq_false h1] at this
      exact this
    refine r_yesD (by omega) ?_
    walk_at "r"
    rw [decide_eq_true h1] at q
    by_cases h2 : l.length ≤ 6
    rotate_left
    · rw [decide_eq_false (by omega)]
      walk_at "r"
      have := q _ (Same.refl _)
      rw [decide_eq_false h2] at this
      exact this
    refine r_yesD (by omega) ?_
    rw [decide_eq_true h2] at q
    walk_at "r"
    refine ⟨_, rfl, fun D hD => lcS_test (l := l) (fun c => decide (97 ≤ c ∧ c ≤ 122)) hD (by omega) (fun i c H' e e' R hR => ?_) fun H' e e' => ?_⟩
    · walk_at "r"
      refine ⟨rfl, ?_⟩
      walk_at "r"
      refine ⟨_, _, rfl, rfl, ?_⟩
      walk_at "r"
      by_cases ha : 97 ≤ c
      · rw [decide_eq_false (fun z => by have := (chr_lt c 97).mp z; omega)]
        walk_at "r"
        refine ⟨_, _, rfl, rfl, ?_⟩
        have hb : (!decide ((S [122]).cps.toList < (S [c]).cps.toList)) = decide (97 ≤ c ∧ c ≤ 122) := by
          rw [Bool.eq_iff_iff, Bool.not_eq_true', decide_eq_false_iff_not, chr_lt, decide_eq_true_eq]
          omega
        rw [hb]
        exact hR _ (Same.refl _)
      · rw [decide_eq_true ((chr_lt c 97).mpr (by omega))]
        walk_at "r"
        have := hR H' (Same.refl _)
        rw [decide_eq_false (by omega)] at this
        exact this
    · walk_at "r"
      refine r_allB e' ?_
      rw [List.all_map]
      exact q _ e

def sp_Lbent_line (K : PySem.W.Frag) : Sp := fun vs H Q _ => ∃ (a : Addr) (c : Int) (l : List Nat), vs = [.ref a, .str (S l)] ∧ PotAt H a c ∧ c ≤ 800000 ∧ l.length ≤ 20000 ∧ (∀ x ∈ l, x < 128) ∧ ∀ H' m, But a H H' → PotAt H' a (c + 3) → m.length ≤ 3 * l.length + 100 → (∀ x ∈ m, x < 128) → Q (.str (S m)) H'
theorem ok_Lbent_line (T : Txt K mg) : Ok P w K mg base CX0 (3) "_law_bent_line" s_Lbent_line ["pot", "line"] (sp_Lbent_line K) := by
  obtain ⟨fd, D⟩ := T.d_Lbent_line
  refine ⟨⟨_, fd, T.g__law_bent_line, D, D.bindsN (fun _ _ _ _ _ _ us hl => match us, hl with | [_, _], _ => rfl), ?_⟩⟩
  refine D.ok sc_Lbent_line (fun vs H Q E h => ?_) (fun cdv A outer s H vs Q E hr h => ?_)
  · obtain ⟨a, c, l, rfl, hP, hc, hl, ha, q⟩ := h
    rfl
  · obtain ⟨a, c, l, rfl, hP, hc, hl, ha, q⟩ := h
    have F_Ltake := ok_Ltake (P := P) (w := w) (K := K) (mg := mg) (base := base) T
    have F_Lof := ok_Lof (P := P) (w := w) (K := K) (mg := mg) (base := base) T
    refine ⟨_, PSs.nox (pss_cons (ps_par (i := 4) (j := 5) (by rfl) sc_Lbent_line.nd rfl rfl (by decide) rfl rfl (pa_cons (pe_split (pv 1) (pe_strS [32] (by rfl))) (pa_cons (pe_cl F_Ltake hr (by rfl) pass0 (pa_cons (pv 0) (pa_cons pe_int pa_nil))) pa_nil)) (by rfl))
      (pss_cons (ps_set (i := 2) sc_Lbent_line.nd rfl (by first | exact Or.inl rfl | exact Or.inr rfl) (pe_cl F_Ltake hr (by rfl) pass0 (pa_cons (pv 0) (pa_cons (pe_callB k_lnQ (by rfl) T.z_len (by decide +kernel) (pa_cons (pv 4) pa_nil)) pa_nil))))
      (pss_cons (ps_set (i := 3) sc_Lbent_line.nd rfl (by first | exact Or.inl rfl | exact Or.inr rfl) (pe_lst (pa_cons (pe_strS [] (by rfl)) (pa_cons (pe_strS [97] (by rfl)) (pa_cons (pe_strS [48] (by rfl)) (pa_cons (pe_strS [49] (by rfl)) (pa_cons (pe_strS [110] (by rfl)) (pa_cons (pe_strS [102] (by rfl)) (pa_cons (pe_strS [115] (by rfl)) (pa_cons (pe_strS [111, 110] (by rfl)) (pa_cons (pe_strS [115, 116, 97, 116, 101] (by rfl)) (pa_cons (pe_strS [111, 102, 116, 101, 110] (by rfl)) (pa_cons (pe_strS [108, 97, 119] (by rfl)) (pa_cons (pe_strS [116, 97, 115, 107] (by rfl)) (pa_cons (pe_strS [102, 105, 114, 115, 116] (by rfl)) (pa_cons (pe_strS [115, 101, 99, 111, 110, 100] (by rfl)) (pa_cons (pe_strS [103, 105, 118, 101, 110] (by rfl)) pa_nil)))))))))))))))))
      (pss_cons (ps_set (i := 3) sc_Lbent_line.nd rfl (by first | exact Or.inl rfl | exact Or.inr rfl) (pe_op op_cat (pv 3) (pe_lst (pa_cons (pe_strS [101, 110, 100, 115] (by rfl)) (pa_cons (pe_strS [65] (by rfl)) (pa_cons (pe_strS [97, 97] (by rfl)) (pa_cons (pe_strS [116, 111, 111, 108, 111, 110, 103] (by rfl)) (pa_cons (pe_ix ix_list (pv 4) pe_int (fun _ _ => rfl)) (pa_cons (pe_ix ix_list (pv 4) (pe_un un_neg pe_int) (fun _ _ => rfl)) (pa_cons (pe_op o_addS (pe_ix ix_list (pv 4) (pe_un un_neg pe_int) (fun _ _ => rfl)) (pe_strS [97] (by rfl))) pa_nil))))))))))
      (pss_cons (ps_if (pt_cmpR op_eq (pv 5) pe_int (nomark _))
        (pss_one (ps_ret (pe_jn (pe_strS [32] (by rfl)) (pe_op op_cat (pe_slice sl_list (pv 4) po_none (po_some (pv 2))) (pe_slice sl_list (pv 4) (po_some (pe_op op_add (pv 2) pe_int)) po_none)))))
        pss_nil)
      (pss_cons (ps_if (pt_cmpR op_eq (pv 5) pe_int (nomark _))
        (pss_one (ps_ret (pe_jn (pe_strS [32] (by rfl)) (pe_op op_cat (pe_slice sl_list (pv 4) po_none (po_some (pe_op op_add (pv 2) pe_int))) (pe_slice sl_list (pv 4) (po_some (pv 2)) po_none)))))
        pss_nil)
      (pss_one (ps_ret (pe_jn (pe_strS [32] (by rfl)) (pe_op op_cat (pe_op op_cat (pe_slice sl_list (pv 4) po_none (po_some (pv 2))) (pe_lst (pa_cons (pe_cl F_Lof hr (by rfl) pass0 (pa_cons (pv 0) (pa_cons (pv 3) pa_nil))) pa_nil))) (pe_slice sl_list (pv 4) (po_some (pe_op op_add (pv 2) pe_int)) po_none))))))))))), ?_⟩
    obtain ⟨c1, _, c3⟩ := cutL_ok 32 l
    obtain ⟨c4, c5⟩ := cutL_len 32 l
    have ht := tot_cut 32 l
    have hca := cutL_asc (c := 32) ha
    walk_at "r"
    refine ⟨⟨_, rfl⟩, ?_⟩
    walk_at "r"
    refine ⟨_, _, rfl, rfl, rfl, by rw [S_len]; exact lt_line (by omega), ?_⟩
    rw [split_cut (by decide)]
    generalize cutL 32 l = ws at c1 c3 c4 c5 ht hca ⊢
    refine r_newS fun H1 p1 s1 hp1 h1 => ?_
    have P1 := hP.same s1
    have n1 := hP.fresh hp1
    walk_at "r"
    refine ⟨a, 8, c, rfl, P1, by omega, by decide, by decide, fun H2 way b2 P2 w0 w8 => ?_⟩
    walk_at "r"
    refine ⟨_, _, rfl, ?_⟩
    have h2 := b2 _ _ n1 h1
    walk_at "r"
    refine r_lnL (SqL.of h2) ?_
    walk_at "r"
    have hwl : 0 < ws.length := List.length_pos_iff.mpr c1
    refine ⟨a, _, _, rfl, P2, by omega, by rw [List.length_map]; omega, by rw [List.length_map]; omega, fun H3 at0 b3 P3 a0 an => ?_⟩
    obtain ⟨n, rfl⟩ := Int.eq_ofNat_of_zero_le a0
    rw [List.length_map] at an
    have hn : n < ws.length := by omega
    have h3 := b3 _ _ n1 h2
    have B3 := ((But.of s1).trans b2).trans b3
    walk_at "r"
    refine ⟨by show 15 ≤ sizeLine; decide, fun p5 hp5 => ?_⟩
    walk_at "r"
    have s5 := same_new hp5 (o := .lst [.str (S []), .str (S [97]), .str (S [48]), .str (S [49]), .str (S [110]), .str (S [102]), .str (S [115]), .str (S [111, 110]), .str (S [115, 116, 97, 116, 101]), .str (S [111, 102, 116, 101, 110]), .str (S [108, 97, 119]), .str (S [116, 97, 115, 107]), .str (S [102, 105, 114, 115, 116]), .str (S [115, 101, 99, 111, 110, 100]), .str (S [103, 105, 118, 101, 110])])
    have e5 : (upd H3 p5 (.lst [.str (S []), .str (S [97]), .str (S [48]), .str (S [49]), .str (S [110]), .str (S [102]), .str (S [115]), .str (S [111, 110]), .str (S [115, 116, 97, 116, 101]), .str (S [111, 102, 116, 101, 110]), .str (S [108, 97, 119]), .str (S [116, 97, 115, 107]), .str (S [102, 105, 114, 115, 116]), .str (S [115, 101, 99, 111, 110, 100]), .str (S [103, 105, 118, 101, 110])])) p5 = some (.lst (([[], [97], [48], [49], [110], [102], [115], [111, 110], [115, 116, 97, 116, 101], [111, 102, 116, 101, 110], [108, 97, 119], [116, 97, 115, 107], [102, 105, 114, 115, 116], [115, 101, 99, 111, 110, 100], [103, 105, 118, 101, 110]] : List (List Nat)).map fun l => V.str (S l))) := upd_same
    have h5 := s5 _ _ h3
    have P5 := P3.same s5
    have n5 := P3.fresh hp5
    generalize upd H3 p5 (.lst [.str (S []), .str (S [97]), .str (S [48]), .str (S [49]), .str (S [110]), .str (S [102]), .str (S [115]), .str (S [111, 110]), .str (S [115, 116, 97, 116, 101]), .str (S [111, 102, 116, 101, 110]), .str (S [108, 97, 119]), .str (S [116, 97, 115, 107]), .str (S [102, 105, 114, 115, 116]), .str (S [115, 101, 99, 111, 110, 100]), .str (S [103, 105, 118, 101, 110])]) = H5 at s5 e5 h5 P5 ⊢
    obtain ⟨z0, r0, ez⟩ : ∃ z0 r0, ws = z0 :: r0 := by
      cases ws with
      | nil => exact absurd rfl c1
      | cons z r => exact ⟨z, r, rfl⟩
    obtain ⟨r1, zl, ez2⟩ : ∃ r1 zl, ws = r1 ++ [zl] := ⟨_, _, (List.dropLast_concat_getLast c1).symm⟩
    have mz0 : z0 ∈ ws := by rw [ez]; exact List.mem_cons_self ..
    have mzl : zl ∈ ws := by rw [ez2]; simp
    have il : atI (ws.map fun l => V.str (S l)) (-1) = some (V.str (S zl)) := by rw [ez2, List.map_append]; exact atI_last _ _
    have lz0 := c5 z0 mz0
    have lzl := c5 zl mzl
    refine r_ixL (SqL.of h5) (words_at (j := 0) (by rw [ez]; rfl)) ?_
    walk_at "r"
    refine r_ixL (SqL.of h5) il ?_
    walk_at "r"
    refine r_ixL (SqL.of h5) il ?_
    walk_at "r"
    refine r_addS (a := zl) (b := [97]) (by simp only [List.length_cons, List.length_nil]; omega) ?_
    walk_at "r"
    refine ⟨by show 7 ≤ sizeLine; decide, fun p6 hp6 => ?_⟩
    have s6 := same_new hp6 (o := .lst [.str (S [101, 110, 100, 115]), .str (S [65]), .str (S [97, 97]), .str (S [116, 111, 111, 108, 111, 110, 103]), .str (S z0), .str (S zl), .str (S (zl ++ [97]))])
    have e6 : (upd H5 p6 (.lst [.str (S [101, 110, 100, 115]), .str (S [65]), .str (S [97, 97]), .str (S [116, 111, 111, 108, 111, 110, 103]), .str (S z0), .str (S zl), .str (S (zl ++ [97]))])) p6 = some (.lst (([[101, 110, 100, 115], [65], [97, 97], [116, 111, 111, 108, 111, 110, 103], z0, zl, zl ++ [97]] : List (List Nat)).map fun l => V.str (S l))) := upd_same
    have e56 := s6 _ _ e5
    have h6 := s6 _ _ h5
    have P6 := P5.same s6
    generalize upd H5 p6 (.lst [.str (S [101, 110, 100, 115]), .str (S [65]), .str (S [97, 97]), .str (S [116, 111, 111, 108, 111, 110, 103]), .str (S z0), .str (S zl), .str (S (zl ++ [97]))]) = H6 at s6 e6 e56 h6 P6 ⊢
    refine ⟨p5, p6, _, _, rfl, rfl, e56, e6, by simp only [List.length_map, List.length_cons, List.length_nil]; decide, fun p7 hp7 => ?_⟩
    rw [← List.map_append]
    have hall : ∀ m ∈ ([[], [97], [48], [49], [110], [102], [115], [111, 110], [115, 116, 97, 116, 101], [111, 102, 116, 101, 110], [108, 97, 119], [116, 97, 115, 107], [102, 105, 114, 115, 116], [115, 101, 99, 111, 110, 100], [103, 105, 118, 101, 110]] : List (List Nat)) ++ [[101, 110, 100, 115], [65], [97, 97], [116, 111, 111, 108, 111, 110, 103], z0, zl, zl ++ [97]], m.length ≤ l.length + 10 ∧ ∀ x ∈ m, x < 128 := fun m hm => by
      rcases List.mem_append.mp hm with h | h
      · have : ∀ m ∈ ([[], [97], [48], [49], [110], [102], [115], [111, 110], [115, 116, 97, 116, 101], [111, 102, 116, 101, 110], [108, 97, 119], [116, 97, 115, 107], [102, 105, 114, 115, 116], [115, 101, 99, 111, 110, 100], [103, 105, 118, 101, 110]] : List (List Nat)), m.length ≤ 10 ∧ ∀ x ∈ m, x < 128 := by decide +kernel
        exact ⟨by have := (this m h).1; omega, (this m h).2⟩
      · simp only [List.mem_cons, List.not_mem_nil, or_false] at h
        rcases h with rfl | rfl | rfl | rfl | rfl | rfl | rfl
        · exact ⟨by simp only [List.length_cons, List.length_nil]; omega, by decide⟩
        · exact ⟨by simp only [List.length_cons, List.length_nil]; omega, by decide⟩
        · exact ⟨by simp only [List.length_cons, List.length_nil]; omega, by decide⟩
        · exact ⟨by simp only [List.length_cons, List.length_nil]; omega, by decide⟩
        · exact ⟨by omega, hca _ mz0⟩
        · exact ⟨by omega, hca _ mzl⟩
        · exact ⟨by simp only [List.length_append, List.length_cons, List.length_nil]; omega, fun x hx => (List.mem_append.mp hx).elim (hca _ mzl x) fun h => by rw [List.mem_singleton.mp h]; decide⟩
    have hsl : (([[], [97], [48], [49], [110], [102], [115], [111, 110], [115, 116, 97, 116, 101], [111, 102, 116, 101, 110], [108, 97, 119], [116, 97, 115, 107], [102, 105, 114, 115, 116], [115, 101, 99, 111, 110, 100], [103, 105, 118, 101, 110]] : List (List Nat)) ++ [[101, 110, 100, 115], [65], [97, 97], [116, 111, 111, 108, 111, 110, 103], z0, zl, zl ++ [97]]).length = 22 := rfl
    generalize ([[], [97], [48], [49], [110], [102], [115], [111, 110], [115, 116, 97, 116, 101], [111, 102, 116, 101, 110], [108, 97, 119], [116, 97, 115, 107], [102, 105, 114, 115, 116], [115, 101, 99, 111, 110, 100], [103, 105, 118, 101, 110]] : List (List Nat)) ++ [[101, 110, 100, 115], [65], [97, 97], [116, 111, 111, 108, 111, 110, 103], z0, zl, zl ++ [97]] = some0 at hall hsl ⊢
    have s7 := same_new hp7 (o := .lst (some0.map fun l => V.str (S l)))
    have e7 : (upd H6 p7 (.lst (some0.map fun l => V.str (S l)))) p7 = some (.lst (some0.map fun l => V.str (S l))) := upd_same
    have n7 := P6.fresh hp7
    have h7 := s7 _ _ h6
    have P7 := P6.same s7
    have B7 := B3.trans (But.of (Same.trans (Same.trans s5 s6) s7))
    generalize upd H6 p7 (.lst (some0.map fun l => V.str (S l))) = H7 at s7 e7 h7 P7 B7 ⊢
    clear e6 e56 e5 s5 s6 s7 h6 h5 h3 h2 h1
    walk_at "r"
    refine r_dec (fun h0 => ?_) (fun h0 => ?_)
    · walk_at "r"
      refine ⟨⟨_, rfl⟩, ?_⟩
      walk_at "r"
      refine r_slL (SqL.of h7) fun q1 hq1 => ?_
      rw [cutV_to, ← List.map_take]
      have t1 := same_new hq1 (o := .lst ((ws.take (n)).map fun l => V.str (S l)))
      have f1 : (upd H7 q1 (.lst ((ws.take (n)).map fun l => V.str (S l)))) q1 = some (.lst ((ws.take (n)).map fun l => V.str (S l))) := upd_same
      generalize upd H7 q1 (.lst ((ws.take (n)).map fun l => V.str (S l))) = G1 at t1 f1 ⊢
      walk_at "r"
      refine r_slL (SqL.of (t1 _ _ h7)) fun q2 hq2 => ?_
      rw [show ((n : Nat) : Int) + 1 = ((n + 1 : Nat) : Int) by omega, cutV_from (by rw [List.length_map]; omega), ← List.map_drop]
      have t2 := same_new hq2 (o := .lst ((ws.drop (n + 1)).map fun l => V.str (S l)))
      have f2 : (upd G1 q2 (.lst ((ws.drop (n + 1)).map fun l => V.str (S l)))) q2 = some (.lst ((ws.drop (n + 1)).map fun l => V.str (S l))) := upd_same
      have f1' := t2 _ _ f1
      generalize upd G1 q2 (.lst ((ws.drop (n + 1)).map fun l => V.str (S l))) = G2 at t2 f2 f1' ⊢
      refine ⟨q1, q2, _, _, rfl, rfl, f1', f2, by rw [List.length_map, List.length_map, List.length_take, List.length_drop]; exact Nat.le_of_lt (lt_line (by omega)), fun q3 hq3 => ?_⟩
      rw [← List.map_append]
      have t3 := same_new hq3 (o := .lst ((ws.take (n) ++ ws.drop (n + 1)).map fun l => V.str (S l)))
      walk_at "r"
      have k1 := tot_take ws (n)
      have k2 := tot_drop ws (n + 1)
      have k3 := tot_app (ws.take (n)) (ws.drop (n + 1))
      have k4 := (joinL_tot 32 (ws.take (n) ++ ws.drop (n + 1))).1
      refine r_joinSp (SqL.of upd_same) (by omega) ?_
      refine q _ _ (B7.trans (But.of (Same.trans (Same.trans t1 t2) t3))) ((P7.same (Same.trans (Same.trans t1 t2) t3)).mono (by omega)) (by omega) (joinL_asc (by decide) fun w hw => ?_)
      rcases List.mem_append.mp hw with h | h
      · exact hca w (List.mem_of_mem_take h)
      · exact hca w (List.mem_of_mem_drop h)
    walk_at "r"
    refine r_dec (fun h1 => ?_) (fun h1 => ?_)
    · walk_at "r"
      refine ⟨⟨_, rfl⟩, ?_⟩
      walk_at "r"
      refine r_slL (SqL.of h7) fun q1 hq1 => ?_
      rw [show ((n : Nat) : Int) + 1 = ((n + 1 : Nat) : Int) by omega, cutV_to, ← List.map_take]
      have t1 := same_new hq1 (o := .lst ((ws.take (n + 1)).map fun l => V.str (S l)))
      have f1 : (upd H7 q1 (.lst ((ws.take (n + 1)).map fun l => V.str (S l)))) q1 = some (.lst ((ws.take (n + 1)).map fun l => V.str (S l))) := upd_same
      generalize upd H7 q1 (.lst ((ws.take (n + 1)).map fun l => V.str (S l))) = G1 at t1 f1 ⊢
      walk_at "r"
      refine r_slL (SqL.of (t1 _ _ h7)) fun q2 hq2 => ?_
      rw [cutV_from (by rw [List.length_map]; omega), ← List.map_drop]
      have t2 := same_new hq2 (o := .lst ((ws.drop (n)).map fun l => V.str (S l)))
      have f2 : (upd G1 q2 (.lst ((ws.drop (n)).map fun l => V.str (S l)))) q2 = some (.lst ((ws.drop (n)).map fun l => V.str (S l))) := upd_same
      have f1' := t2 _ _ f1
      generalize upd G1 q2 (.lst ((ws.drop (n)).map fun l => V.str (S l))) = G2 at t2 f2 f1' ⊢
      refine ⟨q1, q2, _, _, rfl, rfl, f1', f2, by rw [List.length_map, List.length_map, List.length_take, List.length_drop]; exact Nat.le_of_lt (lt_line (by omega)), fun q3 hq3 => ?_⟩
      rw [← List.map_append]
      have t3 := same_new hq3 (o := .lst ((ws.take (n + 1) ++ ws.drop (n)).map fun l => V.str (S l)))
      walk_at "r"
      have k1 := tot_take ws (n + 1)
      have k2 := tot_drop ws (n)
      have k3 := tot_app (ws.take (n + 1)) (ws.drop (n))
      have k4 := (joinL_tot 32 (ws.take (n + 1) ++ ws.drop (n))).1
      refine r_joinSp (SqL.of upd_same) (by omega) ?_
      refine q _ _ (B7.trans (But.of (Same.trans (Same.trans t1 t2) t3))) ((P7.same (Same.trans (Same.trans t1 t2) t3)).mono (by omega)) (by omega) (joinL_asc (by decide) fun w hw => ?_)
      rcases List.mem_append.mp hw with h | h
      · exact hca w (List.mem_of_mem_take h)
      · exact hca w (List.mem_of_mem_drop h)
    walk_at "r"
    refine ⟨⟨_, rfl⟩, ?_⟩
    walk_at "r"
    refine r_slL (SqL.of h7) fun q1 hq1 => ?_
    rw [cutV_to, ← List.map_take]
    have t1 := same_new hq1 (o := .lst ((ws.take n).map fun l => V.str (S l)))
    have f1 : (upd H7 q1 (.lst ((ws.take n).map fun l => V.str (S l)))) q1 = some (.lst ((ws.take n).map fun l => V.str (S l))) := upd_same
    have nq1 := P7.fresh hq1
    generalize upd H7 q1 (.lst ((ws.take n).map fun l => V.str (S l))) = G1 at t1 f1 ⊢
    have PG1 := P7.same t1
    walk_at "r"
    refine ⟨a, p7, _, _, rfl, PG1, by omega, SqL.of (t1 _ _ e7), n7, by rw [List.length_map]; omega, by rw [List.length_map]; omega, fun G2 v b4 P4 hv => ?_⟩
    obtain ⟨w, hw, rfl⟩ := List.mem_map.mp hv
    obtain ⟨lw, aw⟩ := hall w hw
    have f1' := b4 _ _ nq1 f1
    have h8 := b4 _ _ n1 (t1 _ _ h7)
    walk_at "r"
    refine ⟨by show 1 ≤ sizeLine; decide, fun q2 hq2 => ?_⟩
    have t2 := same_new hq2 (o := .lst [.str (S w)])
    have f2 : (upd G2 q2 (.lst [.str (S w)])) q2 = some (.lst (([w] : List (List Nat)).map fun l => V.str (S l))) := upd_same
    have f1'' := t2 _ _ f1'
    have h9 := t2 _ _ h8
    generalize upd G2 q2 (.lst [.str (S w)]) = G3 at t2 f2 f1'' h9 ⊢
    refine ⟨q1, q2, _, _, rfl, rfl, f1'', f2, by rw [List.length_map, List.length_map, List.length_take]; exact Nat.le_of_lt (lt_line (by simp only [List.length_cons, List.length_nil]; omega)), fun q3 hq3 => ?_⟩
    rw [← List.map_append]
    have t3 := same_new hq3 (o := .lst ((ws.take n ++ [w]).map fun l => V.str (S l)))
    have f3 : (upd G3 q3 (.lst ((ws.take n ++ [w]).map fun l => V.str (S l)))) q3 = some (.lst ((ws.take n ++ [w]).map fun l => V.str (S l))) := upd_same
    have h10 := t3 _ _ h9
    generalize upd G3 q3 (.lst ((ws.take n ++ [w]).map fun l => V.str (S l))) = G4 at t3 f3 h10 ⊢
    walk_at "r"
    refine r_slL (SqL.of h10) fun q4 hq4 => ?_
    rw [show ((n : Nat) : Int) + 1 = ((n + 1 : Nat) : Int) by omega, cutV_from (by rw [List.length_map]; omega), ← List.map_drop]
    have t4 := same_new hq4 (o := .lst ((ws.drop (n + 1)).map fun l => V.str (S l)))
    have f4 : (upd G4 q4 (.lst ((ws.drop (n + 1)).map fun l => V.str (S l)))) q4 = some (.lst ((ws.drop (n + 1)).map fun l => V.str (S l))) := upd_same
    have f3' := t4 _ _ f3
    generalize upd G4 q4 (.lst ((ws.drop (n + 1)).map fun l => V.str (S l))) = G5 at t4 f4 f3' ⊢
    refine ⟨q3, q4, _, _, rfl, rfl, f3', f4, by rw [List.length_map, List.length_map, List.length_append, List.length_take, List.length_drop]; exact Nat.le_of_lt (lt_line (by simp only [List.length_cons, List.length_nil]; omega)), fun q5 hq5 => ?_⟩
    rw [← List.map_append]
    have t5 := same_new hq5 (o := .lst ((ws.take n ++ [w] ++ ws.drop (n + 1)).map fun l => V.str (S l)))
    have tA := Same.trans (Same.trans (Same.trans t2 t3) t4) t5
    walk_at "r"
    have k1 := tot_take ws n
    have k2 := tot_drop ws (n + 1)
    have k3 := tot_app (ws.take n ++ [w]) (ws.drop (n + 1))
    have k4 := tot_app (ws.take n) [w]
    rw [tot_one] at k4
    have k5 := (joinL_tot 32 (ws.take n ++ [w] ++ ws.drop (n + 1))).1
    refine r_joinSp (SqL.of upd_same) (by omega) ?_
    refine q _ _ (((B7.trans (But.of t1)).trans b4).trans (But.of tA)) ((P4.same tA).mono (by omega)) (by omega) (joinL_asc (by decide) fun u hu => ?_)
    rcases List.mem_append.mp hu with h | h
    · rcases List.mem_append.mp h with h | h
      · exact hca u (List.mem_of_mem_take h)
      · rw [List.mem_singleton.mp h]; exact aw
    · exact hca u (List.mem_of_mem_drop h)

def sp_Llaw_read (K : PySem.W.Frag) : Sp := fun vs H Q _ => ∃ (x : V) (d : PyData) (z0 : Addr), vs = [x] ∧ Dat K z0 H d x ∧ (∀ l, d = .str (S l) → l.length ≤ 50000 ∧ ∀ c ∈ l, c < 128) ∧
  (datTy d ≠ "str" → ∀ H' p, Same H H' → H' p = some (.tup [.non, .int 0]) → Q (.ref p) H') ∧
  (∀ l n, d = .str (S l) → BadNo (cutL 10 l) n → ∀ H' p, Same H H' → H' p = some (.tup [.non, .int (n : Nat)]) → Q (.ref p) H') ∧
  (∀ l, d = .str (S l) → GoodAt (cutL 10 l) → ∀ H' p F, Same H H' → H' p = some (.tup [.ref F, .non]) → OwnH H' F (rowsOf (cutL 10 l)) → Q (.ref p) H')
theorem ok_Llaw_read (T : Txt K mg) : Ok P w K mg base CX0 (2) "_law_law_read" s_Llaw_read ["text"] (sp_Llaw_read K) := by
  obtain ⟨fd, D⟩ := T.d_Llaw_read
  refine ⟨⟨_, fd, T.g__law_law_read, D, D.bindsN (fun _ _ _ _ _ _ us hl => match us, hl with | [_], _ => rfl), ?_⟩⟩
  refine D.ok sc_Llaw_read (fun vs H Q E h => ?_) (fun cdv A outer s H vs Q E hr h => ?_)
  · obtain ⟨x, d, z0, rfl, hd, hb, q0, q1, q2⟩ := h
    rfl
  · obtain ⟨x, d, z0, rfl, hd, hb, q0, q1, q2⟩ := h
    have F_Llaw_is_name := ok_Llaw_is_name (P := P) (w := w) (K := K) (mg := mg) (base := base) T
    refine ⟨_, PSs.nox (pss_cons (ps_if (pt_not (pt_val (pe_callB call_isi (by rfl) T.z_isinstance (by decide +kernel) (pa_cons (pv 0) (pa_cons (pe_bltn (v := .ty "str") (by rfl) T.z_str (by decide +kernel) rfl) pa_nil)))))
        (pss_one (ps_ret (pe_tup (pa_cons pe_non (pa_cons pe_int pa_nil)))))
        pss_nil)
      (pss_cons (ps_setLc (i := 1) (own := [("line", 7)]) (g := gName 7) (tt := tYes) rfl sc_Llaw_read.nd rfl rfl (sw_true rfl rfl rfl rfl) (pi_list (pe_split (pv 0) (pe_strS [10] (by rfl)))) (blkOk_by (N := ["text", "rows", "found", "names", "at", "words", "letter", "line", "is_form", "row", "name", "is_often", "ways"]) (sc := defScope s_Llaw_read) (by decide +kernel)) (fun _ _ _ _ _ => (pg_name (i := 7) sc_Llaw_read.nd rfl (by first | exact Or.inl rfl | exact Or.inr rfl))) (fun _ _ _ _ _ => pts_nil) (fun _ _ _ _ _ => (pe_split (pv 7) (pe_strS [32] (by rfl)))))
      (pss_cons (ps_if (pt_cmpR (op_neD hr.units) (pe_ix ix_list (pv 1) pe_int (fun _ _ => rfl)) (pe_lst (pa_cons (pe_strS [108, 97, 119] (by rfl)) pa_nil)) (nomark _))
        (pss_one (ps_ret (pe_tup (pa_cons pe_non (pa_cons pe_int pa_nil)))))
        pss_nil)
      (pss_cons (ps_set (i := 2) sc_Llaw_read.nd rfl (by first | exact Or.inl rfl | exact Or.inr rfl) (pe_lst pa_nil))
      (pss_cons (ps_for PassesOwn.never rfl (pi_enum (by rfl) T.z_enumerate (pa_cons (pe_slice sl_list (pv 1) (po_some pe_int) po_none) pa_nil)) (pg_tup rfl (pgs_cons (pg_name (i := 4) sc_Llaw_read.nd rfl (by first | exact Or.inl rfl | exact Or.inr rfl)) (pgs_cons (pg_name (i := 5) sc_Llaw_read.nd rfl (by first | exact Or.inl rfl | exact Or.inr rfl)) pgs_nil)))
        (pss_one (ps_if (pt_cmpR op_eq (pe_op op_mul (pe_op op_fdiv (pv 4) pe_int) pe_int) (pv 4) (nomark _))
        (pss_cons (ps_set (i := 8) sc_Llaw_read.nd rfl (by first | exact Or.inl rfl | exact Or.inr rfl) (pe_and (pe_cmpR op_eq (pe_ix ix_list (pv 5) pe_int (fun _ _ => rfl)) (pe_strS [115, 116, 97, 116, 101] (by rfl)) (nomark _)) (pe_and (pe_cmpR (op_inDT hr.units) (pe_callB k_lnQ (by rfl) T.z_len (by decide +kernel) (pa_cons (pv 5) pa_nil)) (pe_tup (pa_cons pe_int (pa_cons pe_int pa_nil))) (by rfl)) (pe_one (pe_cmpR (op_inDT hr.units) (pe_slice sl_list (pv 5) (po_some pe_int) po_none) (pe_tup (pa_cons (pe_lst pa_nil) (pa_cons (pe_lst (pa_cons (pe_strS [111, 102, 116, 101, 110] (by rfl)) pa_nil)) pa_nil))) (by rfl))))))
      (pss_cons (ps_if (PW.pt (pw_or (pt_not (pt_val (pv 8))) (pw_or (pt_not (pt_val (pe_cl F_Llaw_is_name hr (by rfl) pass0 (pa_cons (pe_ix ix_list (pv 5) pe_int (fun _ _ => rfl)) pa_nil)))) (pw_or1 (pt_cmpR op_in_seq (pe_ix ix_list (pv 5) pe_int (fun _ _ => rfl)) (pe_lc (own := [("row", 9)]) (g := gName 9) (tt := tYes) rfl sc_Llaw_read.nd (pi_list (pv 2)) (blkOk_by (N := ["text", "rows", "found", "names", "at", "words", "letter", "line", "is_form", "row", "name", "is_often", "ways"]) (sc := defScope s_Llaw_read) (by decide +kernel)) (fun _ _ _ _ _ => (pg_name (i := 9) sc_Llaw_read.nd rfl (by first | exact Or.inl rfl | exact Or.inr rfl))) (fun _ _ _ _ _ => pts_nil) (fun _ _ _ _ _ => (pe_ix (show IxR _ (rIxT K) from ix_tup) (pv 9) pe_int (fun _ _ => rfl)))) (by rfl))))))
        (pss_one (ps_ret (pe_tup (pa_cons pe_non (pa_cons (pe_op op_add (pv 4) pe_int) pa_nil)))))
        pss_nil)
      (pss_cons (ps_if (pt_cmpR op_eq (pe_callB k_lnQ (by rfl) T.z_len (by decide +kernel) (pa_cons (pv 2) pa_nil)) pe_int (nomark _))
        (pss_one (ps_ret (pe_tup (pa_cons pe_non (pa_cons (pe_op op_add (pv 4) pe_int) pa_nil)))))
        pss_nil)
      (pss_one (ps_expr (pe_bm PySem.F.plainAttrs_list PySem.F.slot_list_append PySem.F.type_list_append mt_append (pv 2) (pa_cons (pe_tup (pa_cons (pe_ix ix_list (pv 5) pe_int (fun _ _ => rfl)) (pa_cons (pe_cmpR op_eq (pe_callB k_lnQ (by rfl) T.z_len (by decide +kernel) (pa_cons (pv 5) pa_nil)) pe_int (nomark _)) (pa_cons pe_dnewK pa_nil)))) pa_nil)))))))
        (pss_cons (ps_set (i := 6) sc_Llaw_read.nd rfl (by first | exact Or.inl rfl | exact Or.inr rfl) (pe_ix ix_str (pe_strS [110, 102, 115] (by rfl)) (pe_op op_sub (pe_op op_sub (pv 4) (pe_op op_mul (pe_op op_fdiv (pv 4) pe_int) pe_int)) pe_int) (fun _ _ => rfl)))
      (pss_cons (ps_if (PW.pt (pw_or (pt_cmpR op_ne (pe_callB k_lnQ (by rfl) T.z_len (by decide +kernel) (pa_cons (pv 5) pa_nil)) pe_int (nomark _)) (pw_or (pt_cmpR (op_neD hr.units) (pe_slice sl_list (pv 5) po_none (po_some pe_int)) (pe_lst (pa_cons (pe_strS [111, 110] (by rfl)) (pa_cons (pv 6) pa_nil))) (nomark _)) (pw_or1 (pt_not (pt_val (pe_cl F_Llaw_is_name hr (by rfl) pass0 (pa_cons (pe_ix ix_list (pv 5) pe_int (fun _ _ => rfl)) pa_nil))))))))
        (pss_one (ps_ret (pe_tup (pa_cons pe_non (pa_cons (pe_op op_add (pv 4) pe_int) pa_nil)))))
        pss_nil)
      (pss_one (ps_dput (hu_of hr) (pe_ix ix_tup (pe_ix ix_list (pv 2) (pe_un un_neg pe_int) (fun _ _ => rfl)) pe_int (fun _ _ => rfl)) (pv 6) (pe_ix ix_list (pv 5) pe_int (fun _ _ => rfl)) (by rfl))))))))
      (pss_cons (ps_if (PW.pt (pw_or (pt_cmpR (op_eqE hr.units) (pv 2) (pe_lst pa_nil) (nomark _)) (pw_or1 (pt_cmpR op_lt (pe_callB call_lenD (by rfl) T.z_len (by decide +kernel) (pa_cons (pe_ix ix_tup (pe_ix ix_list (pv 2) (pe_un un_neg pe_int) (fun _ _ => rfl)) pe_int (fun _ _ => rfl)) pa_nil)) pe_int (nomark _)))))
        (pss_one (ps_ret (pe_tup (pa_cons pe_non (pa_cons (pe_op op_add (pe_callB k_lnQ (by rfl) T.z_len (by decide +kernel) (pa_cons (pv 1) pa_nil)) pe_int) pa_nil)))))
        pss_nil)
      (pss_cons (ps_setLc (i := 3) (own := [("row", 9)]) (g := gName 9) (tt := tYes) rfl sc_Llaw_read.nd rfl rfl (sw_true rfl rfl rfl rfl) (pi_list (pv 2)) (blkOk_by (N := ["text", "rows", "found", "names", "at", "words", "letter", "line", "is_form", "row", "name", "is_often", "ways"]) (sc := defScope s_Llaw_read) (by decide +kernel)) (fun _ _ _ _ _ => (pg_name (i := 9) sc_Llaw_read.nd rfl (by first | exact Or.inl rfl | exact Or.inr rfl))) (fun _ _ _ _ _ => pts_nil) (fun _ _ _ _ _ => (pe_ix (show IxR _ (rIxT K) from ix_tup) (pv 9) pe_int (fun _ _ => rfl))))
      (pss_cons (ps_for PassesOwn.never rfl (pi_enum (by rfl) T.z_enumerate (pa_cons (pv 2) pa_nil)) (pg_tup rfl (pgs_cons (pg_name (i := 4) sc_Llaw_read.nd rfl (by first | exact Or.inl rfl | exact Or.inr rfl)) (pgs_cons (pg_tup rfl (pgs_cons (pg_name (i := 10) sc_Llaw_read.nd rfl (by first | exact Or.inl rfl | exact Or.inr rfl)) (pgs_cons (pg_name (i := 11) sc_Llaw_read.nd rfl (by first | exact Or.inl rfl | exact Or.inr rfl)) (pgs_cons (pg_name (i := 12) sc_Llaw_read.nd rfl (by first | exact Or.inl rfl | exact Or.inr rfl)) pgs_nil)))) pgs_nil)))
        (pss_one (ps_for PassesOwn.never rfl (pi_str (pe_strS [110, 102, 115] (by rfl))) (pg_name (i := 6) sc_Llaw_read.nd rfl (by first | exact Or.inl rfl | exact Or.inr rfl))
        (pss_one (ps_if (pt_cmpR op_notIn_seq (pe_dget (hu_of hr) (pv 12) (pv 6) (fun _ _ => rfl)) (pv 3) (by rfl))
        (pss_one (ps_ret (pe_tup (pa_cons pe_non (pa_cons (pe_op op_add (pe_op op_add (pe_op op_mul pe_int (pv 4)) (pe_sx (pe_strS [110, 102, 115] (by rfl)) (pv 6))) pe_int) pa_nil)))))
        pss_nil)))))
      (pss_one (ps_ret (pe_tup (pa_cons (pv 2) (pa_cons pe_non pa_nil))))))))))))), ?_⟩
    have hS : ∀ a b : List Nat, decide (V.str (S a) = V.str (S b)) = decide (a = b) := fun a b => decide_eq_decide.mpr S_iff
    walk_at "r"
    refine r_isiD hd (isstr d) ?_
    walk_at "r"
    by_cases ht : datTy d = "str"
    rotate_left
    · rw [decide_eq_false ht]
      walk_at "r"
      exact ⟨by show 2 ≤ sizeLine; decide, fun p hp => q0 ht _ p (same_new hp) upd_same⟩
    obtain ⟨z, rfl⟩ := ty_str ht
    obtain ⟨l, rfl⟩ : ∃ l, z = S l := ⟨_, S_of z⟩
    obtain rfl : x = .str (S l) := by unfold Dat at hd; exact hd.1
    obtain ⟨hl, hasc⟩ := hb l rfl
    obtain ⟨c1, _, _⟩ := cutL_ok 10 l
    obtain ⟨c4, c5⟩ := cutL_len 10 l
    have c6 := cutL_asc (c := 10) hasc
    have q1 := fun n => q1 l n rfl
    have q2 := q2 l rfl
    clear hb q0 hd hasc ht
    rw [show decide (datTy (PyData.str (S l)) = "str") = true from decide_eq_true rfl]
    walk_at "r"
    refine ⟨⟨_, rfl⟩, ?_⟩
    walk_at "r"
    refine ⟨_, _, rfl, rfl, rfl, by rw [S_len]; exact lt_line (by omega), ?_⟩
    rw [split_cut (by decide)]
    generalize cutL 10 l = ls at c1 c4 c5 c6 q1 q2 ⊢
    refine r_newS fun H1 p1 s1 hp1 h1 => ?_
    refine ⟨p1, rfl, ⟨_, SqL.of h1⟩, fun D hD => lc_list (K := K) (a := p1) (xs := ls.map fun l => V.str (S l)) (fun i X => Same H1 X ∧ ∃ ps : List Addr, X D = some (.lst (ps.map V.ref)) ∧ Paired (fun l p => p ≠ D ∧ X p = some (.lst ((cutL 32 l).map fun l => V.str (S l)))) (ls.take i) ps) ⟨same_new hD, [], upd_same, .nil⟩ (fun i X _ h => SqL.of (h.1 _ _ h1)) ?_ ?_⟩
    · intro i v X ev ⟨s3, ps, e3, hps⟩
      rw [List.getElem?_map] at ev
      obtain ⟨ln, er, rfl⟩ := Option.map_eq_some_iff.mp ev
      have hml := List.mem_of_getElem? er
      have hi := (List.getElem?_eq_some_iff.mp er).1
      walk_at "r"
      refine ⟨rfl, ?_⟩
      walk_at "r"
      refine ⟨⟨_, rfl⟩, ?_⟩
      walk_at "r"
      refine ⟨_, _, rfl, rfl, rfl, by rw [S_len]; exact lt_line (by have := c5 ln hml; omega), ?_⟩
      rw [split_cut (by decide)]
      refine r_newS fun X4 p4 s4 hp4 h4 => ?_
      have n4 : p4 ≠ D := fresh_ne hp4 e3
      have hl := hps.length
      rw [List.length_take] at hl
      refine ⟨_, s4 _ _ e3, by rw [List.length_map]; exact lt_line (by omega), Same.mut (Same.trans s3 s4) hD, ps ++ [p4], by rw [upd_same, List.map_append]; rfl, ?_⟩
      rw [take_snoc' er]
      exact (hps.mono fun b p h => ⟨h.1, (upd_ne h.1).trans (s4 _ _ h.2)⟩).snoc ⟨n4, (upd_ne n4).trans h4⟩
    rintro H2 ⟨s2, ps, e2, hps⟩
    rw [List.length_map, List.take_length] at hps
    replace hps := hps.mono fun _ _ h => h.2
    have hlen := hps.length
    obtain ⟨l0, lr, els⟩ : ∃ l0 lr, ls = l0 :: lr := by
      cases ls with
      | nil => exact absurd rfl c1
      | cons z r => exact ⟨z, r, rfl⟩
    have el0 : ls[0]? = some l0 := by rw [els]; rfl
    obtain ⟨p0, ep0, hp0⟩ := paired_getL hps el0
    walk_at "r"
    refine r_ixL (SqL.of e2) (v := .ref p0) (atI_nat (j := 0) (by rw [List.getElem?_map, ep0]; rfl)) ?_
    walk_at "r"
    refine ⟨by show 1 ≤ sizeLine; decide, fun w1 hw1 => ?_⟩
    have s3 := same_new hw1 (o := .lst [.str (S [108, 97, 119])])
    refine r_neWs (ks := cutL 32 l0) (ls := [wLaw]) (cutL_asc (c6 l0 (List.mem_of_getElem? el0))) (by decide) (s3 _ _ hp0) upd_same ?_
    rw [show decide (cutL 32 l0 = [wLaw]) = decide (l0 = wLaw) from decide_eq_decide.mpr (cutL_one (by decide) (by decide))]
    have sA := Same.trans (Same.trans s1 s2) s3
    have e3 := s3 _ _ e2
    replace hps := hps.mono fun _ _ h => s3 _ _ h
    generalize upd H2 w1 (.lst [.str (S [108, 97, 119])]) = H3 at s3 e3 hps sA ⊢
    clear s1 s2 s3 h1 e2 hp0 hw1
    walk_at "r"
    by_cases hlaw : l0 = wLaw
    rotate_left
    · rw [decide_eq_false hlaw]
      walk_at "r"
      refine ⟨by show 2 ≤ sizeLine; decide, fun p hp => q1 _ (.a 0 (by rw [els]; simp) (fun j hj => by omega) ?_) _ p (Same.trans sA (same_new hp)) upd_same⟩
      rw [lnAt_get el0]
      unfold lnB
      rw [if_pos rfl]
      exact decide_eq_false hlaw
    rw [decide_eq_true hlaw]
    walk_at "r"
    refine ⟨Nat.zero_le _, fun F hF => ?_⟩
    walk_at "r"
    have eF : (upd H3 F (.lst [])) F = some (.lst []) := upd_same
    have e4 := (same_new hF (o := .lst [])) _ _ e3
    refine r_slL (SqL.of e4) fun p4 hp4 => ?_
    rw [show cutV (ps.map V.ref) (some 1) none = (ps.drop 1).map V.ref from (cutV_from (n := 1) (by rw [List.length_map, ← hlen, els]; simp)).trans List.map_drop.symm]
    have e4' := (same_new hp4 (o := .lst ((ps.drop 1).map V.ref))) _ _ e4
    have eF' := (same_new hp4 (o := .lst ((ps.drop 1).map V.ref))) _ _ eF
    have s5 : Same H3 (upd (upd H3 F (.lst [])) p4 (.lst ((ps.drop 1).map V.ref))) := Same.trans (same_new hF) (same_new hp4)
    have e5 : (upd (upd H3 F (.lst [])) p4 (.lst ((ps.drop 1).map V.ref))) p4 = some (.lst ((ps.drop 1).map V.ref)) := upd_same
    generalize upd (upd H3 F (.lst [])) p4 (.lst ((ps.drop 1).map V.ref)) = H5 at e4' eF' s5 e5 ⊢
    have nF4 : p4 ≠ F := fresh_ne hp4 eF
    have hlr : ls.length = lr.length + 1 := by rw [els]; rfl
    have ok1 : OkTo ls 1 := fun j hj => by
      obtain rfl : j = 0 := by omega
      rw [lnAt_get el0]
      unfold lnB
      rw [if_pos rfl]
      exact decide_eq_true hlaw
    have hit : ∀ i, i < lr.length → ∃ p, ((ps.drop 1).map V.ref)[i]? = some (.ref p) ∧ ps[i + 1]? = some p := fun i hi => by
      obtain ⟨p, ep⟩ : ∃ p, ps[i + 1]? = some p := ⟨_, List.getElem?_eq_getElem (by omega)⟩
      exact ⟨p, by rw [List.getElem?_map, List.getElem?_drop, show 1 + i = i + 1 by omega, ep]; rfl, ep⟩
    refine ⟨p4, _, rfl, SqL.of e5, for_J (n := lr.length) (fun i σ X => ∃ y z u f, σ = [some (.str (S l)), some (.ref D), some (.ref F), none, y, z, u, none, f, none, none, none, none] ∧ Same H3 X ∧ X p4 = some (.lst ((ps.drop 1).map V.ref)) ∧ OkTo ls (i + 1) ∧ ∃ ts ds, Fnd H3 X F ls i ts ds) ⟨_, _, _, _, rfl, s5, e5, ok1, [], [], Fnd.zero eF'⟩ (fun i σ X hi v => ?_) (fun σ X v => ?_) ?_ ?_⟩
    · obtain ⟨_, _, _, _, rfl, _, g, _⟩ := v
      obtain ⟨p, h, _⟩ := hit i hi
      exact ⟨_, _, SqL.of g, h⟩
    · obtain ⟨_, _, _, _, rfl, _, g, _⟩ := v
      exact ⟨_, SqL.of g, by rw [List.length_map, List.length_drop]; omega⟩
    · rintro i x σ X Y hi ⟨y, z, u, f, rfl, s, g4, ok, ts, ds, Fn⟩ ⟨T2, x1, rfl, hT, rfl, f1⟩
      have ex := f1 _ (SqL.of g4)
      obtain ⟨pw, h1, epw⟩ := hit i hi
      rw [h1] at ex
      obtain rfl : V.ref pw = x1 := Option.some.inj ex
      have el : ls[i + 1]? = some (lnAt ls (i + 1)) := by rw [List.getElem?_eq_getElem (by omega)]; exact congrArg some (lnAt_get (List.getElem?_eq_getElem (by omega))).symm
      have hml := List.mem_of_getElem? el
      obtain ⟨pw', epw', hpw⟩ := paired_getL hps el
      rw [epw] at epw'
      obtain rfl : pw = pw' := Option.some.inj epw'
      have hln := c5 _ hml
      have haw := cutL_asc (c := 32) (c6 _ hml)
      obtain ⟨wne, _, _⟩ := cutL_ok 32 (lnAt ls (i + 1))
      obtain ⟨w4, w5⟩ := cutL_len 32 (lnAt ls (i + 1))
      refine r_gTup (SqT.of upd_same) rfl ?_
      have s6 := same_new hT (o := .tup [.int i, .ref pw])
      replace Fn := Fn.same s6
      replace g4 := s6 _ _ g4
      replace s := Same.trans s s6
      generalize upd X T2 (.tup [.int i, .ref pw]) = X at s Fn g4 ⊢
      clear s6 h1 f1 ex hT
      walk_at "r"
      refine r_I ⟨by decide, by decide⟩ ?_
      walk_at "r"
      refine ⟨_, _, rfl, rfl, .inr (by decide), ?_⟩
      walk_at "r"
      rw [show decide (V.int ((i : Int) / 4 * 4) = V.int i) = decide (i % 4 = 0) by
        rw [Bool.eq_iff_iff, decide_eq_true_eq, decide_eq_true_eq]
        exact ⟨fun h => by have := V.int.inj h; omega, fun h => by congr 1; omega⟩]
      by_cases hm : i % 4 = 0
      · rw [decide_eq_true hm]
        refine r_true ?_
        refine r_seq (r_asg (r_cut (fun v H' => v = .bl (fmB (cutL 32 (lnAt ls (i + 1)))) ∧ Same X H') ?_ fun R fin => ?_))
        rotate_left
        · generalize cutL 32 (lnAt ls (i + 1)) = ws at wne w4 w5 haw hpw fin ⊢
          clear ok Fn q1 q2
          obtain ⟨w0, wr, rfl⟩ : ∃ w0 wr, ws = w0 :: wr := by
            cases ws with
            | nil => exact absurd rfl wne
            | cons z r => exact ⟨z, r, rfl⟩
          walk_at "r"
          have hw := s _ _ hpw
          refine r_ixL (SqL.of hw) (words_at (j := 0) rfl) ?_
          walk_at "r"
          rw [hS]
          have few : ∀ b, fmB (w0 :: wr) = b → ∀ H', Same X H' → R (.bl b) H' := fun b hb H' e => fin _ _ ⟨by rw [hb], e⟩
          by_cases h0 : w0 = wState
          rotate_left
          · rw [decide_eq_false (show ¬ w0 = [115, 116, 97, 116, 101] from h0)]
            walk_at "r"
            exact few _ (by unfold fmB; simp [h0]) _ (Same.refl _)
          rw [decide_eq_true (show w0 = [115, 116, 97, 116, 101] from h0)]
          walk_at "r"
          refine r_lnL (SqL.of hw) ?_
          walk_at "r"
          refine ⟨by show 2 ≤ sizeLine; decide, fun t1 ht1 => ?_⟩
          have z1 := same_new ht1 (o := .tup [.int 2, .int 3])
          refine r_inI2 (SqT.of upd_same) ?_
          generalize upd X t1 (.tup [.int 2, .int 3]) = X1 at z1 ⊢
          rw [List.length_map]
          by_cases h23 : (w0 :: wr).length = 2 ∨ (w0 :: wr).length = 3
          rotate_left
          · rw [decide_eq_false h23]
            walk_at "r"
            exact few _ (by unfold fmB; rw [decide_eq_false h23]; simp) _ z1
          rw [decide_eq_true h23]
          walk_at "r"
          refine r_slL (SqL.of (z1 _ _ hw)) fun t2 ht2 => ?_
          rw [show cutV ((w0 :: wr).map fun l => V.str (S l)) (some 2) none = (((w0 :: wr).drop 2).map fun l => V.str (S l)) from (cutV_from (n := 2) (by rw [List.length_map]; omega)).trans List.map_drop.symm]
          have z2 := same_new ht2 (o := .lst (((w0 :: wr).drop 2).map fun l => V.str (S l)))
          have f2 : (upd X1 t2 (.lst (((w0 :: wr).drop 2).map fun l => V.str (S l)))) t2 = some (.lst (((w0 :: wr).drop 2).map fun l => V.str (S l))) := upd_same
          generalize upd X1 t2 (.lst (((w0 :: wr).drop 2).map fun l => V.str (S l))) = X2 at z2 f2 ⊢
          walk_at "r"
          refine ⟨Nat.zero_le _, fun t3 ht3 => ?_⟩
          have z3 := same_new ht3 (o := .lst [])
          have f3 : (upd X2 t3 (.lst [])) t3 = some (.lst []) := upd_same
          generalize upd X2 t3 (.lst []) = X3 at z3 f3 ⊢
          walk_at "r"
          refine ⟨by show 1 ≤ sizeLine; decide, fun t4 ht4 => ?_⟩
          have z4 := same_new ht4 (o := .lst [.str (S [111, 102, 116, 101, 110])])
          have f4 : (upd X3 t4 (.lst [.str (S [111, 102, 116, 101, 110])])) t4 = some (.lst [.str (S wOften)]) := upd_same
          generalize upd X3 t4 (.lst [.str (S [111, 102, 116, 101, 110])]) = X4 at z4 f4 ⊢
          walk_at "r"
          refine ⟨by show 2 ≤ sizeLine; decide, fun t5 ht5 => ?_⟩
          have z5 := same_new ht5 (o := .tup [.ref t3, .ref t4])
          refine r_inWs (fun k hk => haw k (List.mem_of_mem_drop hk)) (SqL.of (z5 _ _ (z4 _ _ (z3 _ _ f2)))) (SqT.of upd_same) (SqL.of (z5 _ _ (z4 _ _ f3))) (SqL.of (z5 _ _ f4)) ?_
          exact few _ (by unfold fmB; rw [decide_eq_true h23, decide_eq_true (show (w0 :: wr)[0]? = some wState from congrArg some h0)]; simp) _ (Same.trans (Same.trans (Same.trans z1 z2) (Same.trans z3 z4)) z5)
        rintro _ X1 ⟨rfl, z1⟩
        walk_at "r"
        have hw := s _ _ hpw
        have elB : lnB (i + 1) (lnAt ls (i + 1)) (nmsAt ls (i + 1)) = ((fmB (cutL 32 (lnAt ls (i + 1))) && nmB ((cutL 32 (lnAt ls (i + 1))).getD 1 [])) && (!decide ((cutL 32 (lnAt ls (i + 1))).getD 1 [] ∈ nmsAt ls (i + 1)) && decide ((nmsAt ls (i + 1)).length < 64))) := by
          rw [← fm_st]
          unfold lnB
          rw [if_neg (by omega), if_pos (by omega)]
        have bad : lnB (i + 1) (lnAt ls (i + 1)) (nmsAt ls (i + 1)) = false → ∀ H' p, Same X H' → H' p = some (.tup [.non, .int ((i : Int) + 2)]) → Q (.ref p) H' := fun hb H' p e h => q1 _ (.a (i + 1) (by omega) ok hb) H' p (Same.trans (Same.trans sA s) e) (by rw [h]; rfl)
        have hrn : (rowAt ls (i / 4)).nm = (cutL 32 (lnAt ls (i + 1))).getD 1 [] := by
          unfold rowAt
          rw [show 4 * (i / 4) + 1 = i + 1 by omega]
        have hro : (rowAt ls (i / 4)).oft = decide ((cutL 32 (lnAt ls (i + 1))).length = 3) := by
          unfold rowAt
          rw [show 4 * (i / 4) + 1 = i + 1 by omega]
        have hfew := nms_few hm ok
        generalize cutL 32 (lnAt ls (i + 1)) = ws at wne w4 w5 haw hpw hw elB hrn hro ⊢
        cases hf : fmB ws with
        | false =>
          walk_at "r"
          exact ⟨by show 2 ≤ sizeLine; decide, fun p hp => bad (by rw [elB, hf]; rfl) _ p (Same.trans z1 (same_new hp)) upd_same⟩
        | true =>
        obtain ⟨wa, wb, wr, rfl⟩ : ∃ wa wb wr, ws = wa :: wb :: wr := by
          unfold fmB at hf
          match ws, wne with
          | [a], _ => simp at hf
          | a :: b :: r, _ => exact ⟨a, b, r, rfl⟩
        walk_at "r"
        refine r_ixL (SqL.of (z1 _ _ hw)) (words_at (j := 1) rfl) ?_
        walk_at "r"
        refine ⟨wb, rfl, by have := w5 wb (by simp); omega, fun X2 z2 => ?_⟩
        replace elB : lnB (i + 1) (lnAt ls (i + 1)) (nmsAt ls (i + 1)) = (nmB wb && (!decide (wb ∈ nmsAt ls (i + 1)) && decide ((nmsAt ls (i + 1)).length < 64))) := by rw [elB, hf]; rfl
        have zA := Same.trans z1 z2
        cases hnm : nmB wb with
        | false =>
          walk_at "r"
          exact ⟨by show 2 ≤ sizeLine; decide, fun p hp => bad (by rw [elB, hnm]; rfl) _ p (Same.trans zA (same_new hp)) upd_same⟩
        | true =>
        rw [hnm, Bool.true_and] at elB
        walk_at "r"
        refine r_ixL (SqL.of (zA _ _ hw)) (words_at (j := 1) rfl) ?_
        walk_at "r"
        have Fn2 := Fn.same zA
        have hlt := Fn.lt
        refine ⟨F, rfl, ⟨_, SqL.of Fn2.f⟩, fun D2 hD2 => lc_list (K := K) (a := F) (xs := ts.map V.ref) (fun k X => Same X2 X ∧ X D2 = some (.lst (((nmsAt ls (i + 1)).take k).map fun l => V.str (S l)))) ⟨same_new hD2, upd_same⟩ (fun k X _ h => SqL.of (h.1 _ _ Fn2.f)) ?_ ?_⟩
        · rintro k v X3 ev ⟨z3, e3⟩
          rw [List.getElem?_map] at ev
          obtain ⟨t, et, rfl⟩ := Option.map_eq_some_iff.mp ev
          have hk := (List.getElem?_eq_some_iff.mp et).1
          have hld := Fn.ld
          obtain ⟨d, ed⟩ : ∃ d, ds[k]? = some d := ⟨_, List.getElem?_eq_getElem (by omega)⟩
          walk_at "r"
          refine ⟨rfl, ?_⟩
          walk_at "r"
          refine r_ixT (SqT.of (z3 _ _ (Fn2.r k t d et ed).1)) rfl ?_
          refine ⟨_, e3, by rw [List.length_map, List.length_take]; exact lt_line (by omega), Same.mut z3 hD2, ?_⟩
          rw [upd_same, take_snoc' (nms_at (by omega)), List.map_append]
          rfl
        rintro X3 ⟨z3, e3⟩
        rw [List.length_map, List.take_of_length_le (by rw [nmsAt_len]; omega)] at e3
        walk_at "r"
        refine r_inNm (.inl (SqL.of e3)) ?_
        have zB := Same.trans zA z3
        by_cases hin : wb ∈ nmsAt ls (i + 1)
        · rw [decide_eq_true hin]
          walk_at "r"
          exact ⟨by show 2 ≤ sizeLine; decide, fun p hp => bad (by rw [elB, decide_eq_true hin]; rfl) _ p (Same.trans zB (same_new hp)) upd_same⟩
        rw [decide_eq_false hin]
        rw [decide_eq_false hin, Bool.not_false, Bool.true_and, nmsAt_len] at elB
        walk_at "r"
        have Fn3 := Fn.same zB
        refine r_lnL (SqL.of Fn3.f) ?_
        walk_at "r"
        rw [List.length_map, hlt]
        by_cases h64 : (i + 3) / 4 = 64
        · rw [decide_eq_true (show V.int (((i + 3) / 4 : Nat) : Int) = V.int 64 by rw [h64]; rfl)]
          walk_at "r"
          exact ⟨by show 2 ≤ sizeLine; decide, fun p hp => bad (by rw [elB]; exact decide_eq_false (by omega)) _ p (Same.trans zB (same_new hp)) upd_same⟩
        rw [decide_eq_false (show ¬ V.int (((i + 3) / 4 : Nat) : Int) = V.int 64 from fun z => h64 (by have := V.int.inj z; omega))]
        walk_at "r"
        refine ⟨_, rfl, .inl ⟨rfl, _, SqL.of Fn3.f⟩, ?_⟩
        walk_at "r"
        refine r_ixL (SqL.of (zB _ _ hw)) (words_at (j := 1) rfl) ?_
        walk_at "r"
        refine r_lnL (SqL.of (zB _ _ hw)) ?_
        walk_at "r"
        intro d hd
        refine ⟨by show 3 ≤ sizeLine; decide, fun t ht => ?_⟩
        have y1 := same_new hd (o := .dK [])
        have y2 := same_new ht (o := .tup [.str (S wb), .bl (decide (V.int ((((wa :: wb :: wr).map fun l => V.str (S l)).length : Nat) : Int) = V.int 3)), .ref d])
        have Fn4 := (Fn3.same y1).same y2
        have fd : (upd (upd X3 d (.dK [])) t (.tup [.str (S wb), .bl (decide (V.int ((((wa :: wb :: wr).map fun l => V.str (S l)).length : Nat) : Int) = V.int 3)), .ref d])) d = some (.dK []) := y2 _ _ upd_same
        have ft : (upd (upd X3 d (.dK [])) t (.tup [.str (S wb), .bl (decide (V.int ((((wa :: wb :: wr).map fun l => V.str (S l)).length : Nat) : Int) = V.int 3)), .ref d])) t = some (.tup [.str (S wb), .bl (decide (V.int ((((wa :: wb :: wr).map fun l => V.str (S l)).length : Nat) : Int) = V.int 3)), .ref d]) := upd_same
        have zC := Same.trans zB (Same.trans y1 y2)
        generalize upd (upd X3 d (.dK [])) t (.tup _) = X4 at y2 Fn4 fd ft zC ⊢
        rw [show decide (V.int ((((wa :: wb :: wr).map fun l => V.str (S l)).length : Nat) : Int) = V.int 3) = (rowAt ls (i / 4)).oft by
          rw [hro, List.length_map]
          exact decide_eq_decide.mpr ⟨fun h => by have := V.int.inj h; omega, fun h => by rw [h]; rfl⟩] at ft
        rw [show wb = (rowAt ls (i / 4)).nm from hrn.symm] at ft
        walk_at "r"
        refine ⟨F, _, _, rfl, rfl, Fn4.f, by rw [List.length_map]; exact lt_line (by omega), ?_⟩
        walk_at "r"
        have hd3 : H3 d = none := same_free (Same.trans s zB) hd
        refine ⟨_, _, _, _, rfl, Same.mut (Same.trans s zC) hF, (upd_ne nF4).trans (zC _ _ g4), ok.snoc (by rw [elB]; exact decide_eq_true (by omega)), _, _, Fn4.head hm hd3 (fun d' hd' z => ?_) ft fd⟩
        subst z
        obtain ⟨k, ek⟩ := List.getElem?_of_mem hd'
        have hk := (List.getElem?_eq_some_iff.mp ek).1
        have hld := Fn.ld
        obtain ⟨t', et⟩ : ∃ t', ts[k]? = some t' := ⟨_, List.getElem?_eq_getElem (by omega)⟩
        have := (Fn3.r k t' d' et ek).2
        rw [hd] at this
        cases this
      · rw [decide_eq_false hm]
        walk_at "r"
        refine r_I ⟨by decide, by decide⟩ ?_
        walk_at "r"
        refine ⟨_, _, rfl, rfl, .inr (by decide), ?_⟩
        walk_at "r"
        obtain ⟨k, hk, hk3⟩ : ∃ k : Nat, i % 4 = k + 1 ∧ k < 3 := ⟨i % 4 - 1, by omega, by omega⟩
        rw [show ((i : Int) - (i : Int) / 4 * 4 - 1) = (k : Int) by omega]
        obtain ⟨c, ec⟩ : ∃ c, ([110, 102, 115] : List Nat)[k]? = some c := ⟨_, List.getElem?_eq_getElem hk3⟩
        refine r_ixS (by decide) (atI_nat (j := k) ec) ?_
        have hw := s _ _ hpw
        have elB : lnB (i + 1) (lnAt ls (i + 1)) (nmsAt ls (i + 1)) = onB (cutL 32 (lnAt ls (i + 1))) c := by
          unfold lnB
          rw [if_neg (by omega), if_neg (by omega), show (i + 1 - 2) % 4 = k by omega, List.getD_eq_getElem?_getD, ec]
          rfl
        have bad : onB (cutL 32 (lnAt ls (i + 1))) c = false → ∀ H' p, Same X H' → H' p = some (.tup [.non, .int ((i : Int) + 2)]) → Q (.ref p) H' := fun hb H' p e h => q1 _ (.a (i + 1) (by omega) ok (by rw [elB]; exact hb)) H' p (Same.trans (Same.trans sA s) e) (by rw [h]; rfl)
        have hway : (rowAt ls (i / 4)).way c = (cutL 32 (lnAt ls (i + 1))).getLastD [] := by
          unfold rowAt
          show (cutL 32 (lnAt ls (4 * (i / 4) + 2 + ixF c))).getLastD [] = _
          rw [ixF_at ec, show 4 * (i / 4) + 2 + k = i + 1 by omega]
        have hcc : c < 128 := by
          have := List.mem_of_getElem? ec
          simp at this
          omega
        generalize cutL 32 (lnAt ls (i + 1)) = ws at wne w4 w5 haw hpw hw elB bad hway ⊢
        walk_at "r"
        refine r_lnL (SqL.of hw) ?_
        walk_at "r"
        rw [List.length_map]
        by_cases h3 : ws.length = 3
        rotate_left
        · rw [decide_eq_false (show ¬ V.int ((ws.length : Nat) : Int) = V.int 3 from fun z => h3 (by have := V.int.inj z; omega))]
          walk_at "r"
          exact ⟨by show 2 ≤ sizeLine; decide, fun p hp => bad (by unfold onB; simp [h3]) _ p (same_new hp) upd_same⟩
        rw [decide_eq_true (show V.int ((ws.length : Nat) : Int) = V.int 3 by rw [h3]; rfl)]
        walk_at "r"
        obtain ⟨wa, wb, wc, rfl⟩ : ∃ wa wb wc, ws = [wa, wb, wc] := by
          match ws, h3 with
          | [a, b, d], _ => exact ⟨a, b, d, rfl⟩
        refine r_slL (SqL.of hw) fun t2 ht2 => ?_
        rw [show cutV ([wa, wb, wc].map fun l => V.str (S l)) none (some 2) = ([wa, wb].map fun l => V.str (S l)) from cutV_to (n := 2)]
        have z2 := same_new ht2 (o := .lst ([wa, wb].map fun l => V.str (S l)))
        have f2 : (upd X t2 (.lst ([wa, wb].map fun l => V.str (S l)))) t2 = some (.lst ([wa, wb].map fun l => V.str (S l))) := upd_same
        generalize upd X t2 (.lst ([wa, wb].map fun l => V.str (S l))) = X2 at z2 f2 ⊢
        walk_at "r"
        refine ⟨by show 2 ≤ sizeLine; decide, fun t3 ht3 => ?_⟩
        have z3 := same_new ht3 (o := .lst [.str (S [111, 110]), .str (S [c])])
        refine r_neWs (ks := [wa, wb]) (ls := [wOn, [c]]) (fun k hk => haw k (by simp at hk ⊢; rcases hk with h | h <;> simp [h])) (fun k hk x hx => ?_) (z3 _ _ f2) upd_same ?_
        · simp at hk
          rcases hk with rfl | rfl
          · revert x; decide
          · rw [List.mem_singleton.mp hx]; exact hcc
        have zA := Same.trans z2 z3
        generalize upd X2 t3 (.lst [.str (S [111, 110]), .str (S [c])]) = X3 at zA ⊢
        walk_at "r"
        by_cases h2 : [wa, wb] = [wOn, [c]]
        rotate_left
        · rw [decide_eq_false h2]
          walk_at "r"
          refine ⟨by show 2 ≤ sizeLine; decide, fun p hp => bad ?_ _ p (Same.trans zA (same_new hp)) upd_same⟩
          unfold onB
          by_cases ha : wa = wOn
          · have hb : wb ≠ [c] := fun z => h2 (by rw [ha, z])
            simp [hb]
          · simp [ha]
        rw [decide_eq_true h2]
        obtain rfl : wa = wOn := (List.cons.inj h2).1
        obtain rfl : wb = [c] := (List.cons.inj (List.cons.inj h2).2).1
        walk_at "r"
        refine r_ixL (SqL.of (zA _ _ hw)) (words_at (j := 2) rfl) ?_
        walk_at "r"
        refine ⟨wc, rfl, by have := w5 wc (by simp); omega, fun X4 z4 => ?_⟩
        have eon : onB [wOn, [c], wc] c = nmB wc := by unfold onB; simp
        have zB := Same.trans zA z4
        cases hnm : nmB wc with
        | false =>
          walk_at "r"
          exact ⟨by show 2 ≤ sizeLine; decide, fun p hp => bad (by rw [eon, hnm]) _ p (Same.trans zB (same_new hp)) upd_same⟩
        | true =>
        walk_at "r"
        refine r_ixL (SqL.of (zB _ _ hw)) (words_at (j := 2) rfl) ?_
        walk_at "r"
        have Fn4 := Fn.same zB
        obtain ⟨t, d, il, et, ed, rk, hd3⟩ := Fn4.last hm
        refine r_ixL (SqL.of Fn4.f) il ?_
        walk_at "r"
        refine r_ixT (SqT.of rk.1) rfl ?_
        walk_at "r"
        refine ⟨d, _, rfl, DPut.k (k := .inr (S [c])) rk.2 (lt_line (by rw [List.length_take]; omega)), ?_⟩
        have hwc : wc = (rowAt ls (i / 4)).way c := hway.symm
        rw [show (V.str (S wc)) = V.str (S ((rowAt ls (i / 4)).way c)) by rw [hwc], show i % 4 - 1 = k by omega, wK_put ec]
        have Fn5 := Fn4.way hm ed
        rw [hk] at Fn5
        have nd4 : p4 ≠ d := fun z => by
          subst z
          have := rk.2
          rw [zB _ _ g4] at this
          cases this
        walk_at "r"
        exact ⟨_, _, _, _, rfl, Same.mut (Same.trans s zB) hd3, (upd_ne nd4).trans (zB _ _ g4), ok.snoc (by rw [elB, eon, hnm]), _, _, Fn5⟩
    · rintro σ X ⟨y, z, u, f, rfl, s, g4, ok, ts, ds, Fn⟩
      walk_at "r"
      refine ⟨Nat.zero_le _, fun g hg => ?_⟩
      have z1 := same_new hg (o := .lst [])
      refine ⟨F, g, _, rfl, rfl, SqL.of (z1 _ _ Fn.f), SqL.of upd_same, ?_⟩
      replace Fn := Fn.same z1
      replace s := Same.trans s z1
      generalize upd X g (.lst []) = X at s Fn ⊢
      clear z1 g4 hit e5 e4' eF' e4 eF
      rw [← hlr] at ok
      have hlt := Fn.lt
      have hld := Fn.ld
      have hnl := nmsAt_len ls ls.length
      have eD := s _ _ e3
      have sX := Same.trans sA s
      have bad : (nmsAt ls ls.length = [] ∨ ls.length ≠ 1 + 4 * (nmsAt ls ls.length).length) → ∀ H' p, Same X H' → H' p = some (.tup [.non, .int (((ps.map V.ref).length : Nat) + 1)]) → Q (.ref p) H' := fun hb H' p e h => q1 _ (.b ok hb) H' p (Same.trans sX e) (by rw [h, List.length_map, hlen]; rfl)
      by_cases h0 : lr.length = 0
      · rw [show (ts.map V.ref).isEmpty = true by rw [show ts = [] from List.eq_nil_of_length_eq_zero (by omega)]; rfl]
        walk_at "r"
        refine r_lnL (SqL.of eD) ?_
        walk_at "r"
        exact ⟨by show 2 ≤ sizeLine; decide, fun p hp => bad (.inl (List.eq_nil_of_length_eq_zero (by omega))) _ p (same_new hp) upd_same⟩
      rw [show (ts.map V.ref).isEmpty = false by
        cases hts : ts with
        | nil => rw [hts] at hlt; simp at hlt; omega
        | cons _ _ => rfl]
      walk_at "r"
      obtain ⟨t, d, il, rk⟩ := Fn.lastG (by omega)
      refine r_ixL (SqL.of Fn.f) il ?_
      walk_at "r"
      refine r_ixT (SqT.of rk.1) rfl ?_
      refine ⟨d, _, rfl, rk.2, ?_⟩
      walk_at "r"
      rw [List.length_take, show (wK (rowAt ls ((lr.length + 3) / 4 - 1)).way).length = 3 from rfl]
      by_cases h4 : lr.length % 4 = 0
      rotate_left
      · refine r_yesD (by omega) ?_
        walk_at "r"
        refine r_lnL (SqL.of eD) ?_
        walk_at "r"
        exact ⟨by show 2 ≤ sizeLine; decide, fun p hp => bad (.inr (by omega)) _ p (same_new hp) upd_same⟩
      refine r_noD (by omega) ?_
      have hnn : nmsAt ls ls.length ≠ [] := fun z => by rw [z] at hnl; simp at hnl; omega
      have hl4 : ls.length = 1 + 4 * (nmsAt ls ls.length).length := by omega
      clear bad rk il
      walk_at "r"
      refine ⟨F, rfl, ⟨_, SqL.of Fn.f⟩, fun N hN => lc_list (K := K) (a := F) (xs := ts.map V.ref) (fun k Y => Same X Y ∧ Y N = some (.lst (((nmsAt ls ls.length).take k).map fun l => V.str (S l)))) ⟨same_new hN, upd_same⟩ (fun k Y _ h => SqL.of (h.1 _ _ Fn.f)) ?_ ?_⟩
      · rintro k v X3 ev ⟨z3, e3⟩
        rw [List.getElem?_map] at ev
        obtain ⟨t, et, rfl⟩ := Option.map_eq_some_iff.mp ev
        have hk := (List.getElem?_eq_some_iff.mp et).1
        obtain ⟨d, ed⟩ : ∃ d, ds[k]? = some d := ⟨_, List.getElem?_eq_getElem (by omega)⟩
        walk_at "r"
        refine ⟨rfl, ?_⟩
        walk_at "r"
        refine r_ixT (SqT.of (z3 _ _ (Fn.r k t d et ed).1)) rfl ?_
        refine ⟨_, e3, by rw [List.length_map, List.length_take]; exact lt_line (by omega), Same.mut z3 hN, ?_⟩
        have hat := nms_at (ls := ls) (i := lr.length) (k := k) (by omega)
        rw [← hlr] at hat
        rw [upd_same, take_snoc' hat, List.map_append]
        rfl
      rintro X3 ⟨z3, e3⟩
      rw [List.length_map, List.take_of_length_le (by omega)] at e3
      walk_at "r"
      have Fn3 := Fn.same z3
      refine ⟨F, _, rfl, SqL.of Fn3.f, for_J (n := ts.length) (fun i σ Y => ∃ y z u f a b w, σ = [some (.str (S l)), some (.ref D), some (.ref F), some (.ref N), y, z, u, none, f, none, a, b, w] ∧ Same X3 Y ∧ TailOk ls (4 * i + 1)) ⟨_, _, _, _, _, _, _, rfl, Same.refl _, fun j hj => by omega⟩ (fun i σ Y hi v => ?_) (fun σ Y v => ?_) ?_ ?_⟩
      · obtain ⟨_, _, _, _, _, _, _, rfl, g, _⟩ := v
        exact ⟨_, V.ref ts[i], SqL.of (g _ _ Fn3.f), by rw [List.getElem?_map, List.getElem?_eq_getElem hi]; rfl⟩
      · obtain ⟨_, _, _, _, _, _, _, rfl, g, _⟩ := v
        exact ⟨_, SqL.of (g _ _ Fn3.f), by rw [List.length_map]; exact Nat.le_refl _⟩
      · rintro i x σ Y Z hi ⟨y, z, u, f, a, b, w, rfl, sY, tok⟩ ⟨T2, x1, rfl, hT, rfl, f1⟩
        have ex := f1 _ (SqL.of (sY _ _ Fn3.f))
        obtain ⟨t, et⟩ : ∃ t, ts[i]? = some t := ⟨_, List.getElem?_eq_getElem hi⟩
        obtain ⟨d, ed⟩ : ∃ d, ds[i]? = some d := ⟨_, List.getElem?_eq_getElem (by omega)⟩
        rw [List.getElem?_map, et] at ex
        obtain rfl : V.ref t = x1 := Option.some.inj ex
        refine r_gTup (SqT.of upd_same) rfl ?_
        have s6 := same_new hT (o := .tup [.int i, .ref t])
        replace sY := Same.trans sY s6
        generalize upd Y T2 (.tup [.int i, .ref t]) = Y at sY ⊢
        have rk := (Fn3.same sY).r i t d et ed
        rw [show min 3 (lr.length - (4 * i + 1)) = 3 by omega] at rk
        have rk2 : Y d = some (.dK (wK (rowAt ls i).way)) := rk.2
        walk_at "r"
        refine r_gTup (SqT.of rk.1) rfl ?_
        walk_at "r"
        refine ⟨_, rfl, for_S (l := [110, 102, 115]) (fun k σ Z => ∃ u, σ = [some (.str (S l)), some (.ref D), some (.ref F), some (.ref N), some (.int i), z, u, none, f, none, some (.str (S (rowAt ls i).nm)), some (.bl (rowAt ls i).oft), some (.ref d)] ∧ Z = Y ∧ TailOk ls (4 * i + 2 + k)) ⟨u, rfl, rfl, tok.snoc fun _ h => absurd (show (4 * i + 1) % 4 = 1 by omega) h⟩ ?_ ?_⟩
        · rintro k c σ Z ec ⟨u, rfl, rfl, tok2⟩
          have hk3 := (List.getElem?_eq_some_iff.mp ec).1
          replace hk3 : k < 3 := hk3
          have hc : c = 110 ∨ c = 102 ∨ c = 115 := by
            have := List.mem_of_getElem? ec
            simpa using this
          walk_at "r"
          refine ⟨d, _, rfl, by rw [← wK_get (rowAt ls i).way hc]; exact DGet.k (k := .inr (S [c])) rk2, ?_⟩
          walk_at "r"
          refine r_notInNm (.inl (SqL.of (sY _ _ e3))) ?_
          rw [way_at ec]
          by_cases hin : (cutL 32 (lnAt ls (4 * i + 2 + k))).getLastD [] ∈ nmsAt ls ls.length
          · rw [decide_eq_true hin]
            walk_at "r"
            exact ⟨_, rfl, rfl, tok2.snoc fun _ _ => hin⟩
          · rw [decide_eq_false hin]
            walk_at "r"
            refine ⟨_, _, rfl, rfl, .inl ⟨by decide, by decide⟩, ?_⟩
            walk_at "r"
            refine ⟨⟨_, rfl⟩, ?_⟩
            walk_at "r"
            obtain ⟨rest, ho⟩ := occ_nfs ec
            refine ⟨_, _, k, rest, rfl, rfl, ho, ?_⟩
            walk_at "r"
            refine ⟨by show 2 ≤ sizeLine; decide, fun p hp => q1 _ (.c (4 * i + 2 + k) ok hnn hl4 (by omega) tok2 (by omega) (by omega) hin) _ p (Same.trans (Same.trans (Same.trans sX z3) sY) (same_new hp)) ?_⟩
            rw [upd_same, show 4 * (i : Int) + (k : Int) + 3 = ((4 * i + 2 + k + 1 : Nat) : Int) by omega]
        · rintro σ Z ⟨u, rfl, rfl, tok2⟩
          walk_at "r"
          exact ⟨_, _, _, _, _, _, _, rfl, sY, tok2⟩
      · rintro σ Y ⟨y, z, u, f, a, b, w, rfl, sY, tok⟩
        walk_at "r"
        refine ⟨by show 2 ≤ sizeLine; decide, fun p hp => q2 ⟨ok, hnn, hl4, fun j hj => tok j (by omega)⟩ _ p F (Same.trans (Same.trans (Same.trans sX z3) sY) (same_new hp)) upd_same ?_⟩
        exact ((Fn3.same sY).same (same_new hp)).own hlr h4

def sp_Lbent_text (K : PySem.W.Frag) : Sp := fun vs H Q _ => ∃ (a : Addr) (c : Int) (l : List Nat), vs = [.ref a, .str (S l)] ∧ PotAt H a c ∧ c ≤ 700000 ∧ l.length ≤ 10000 ∧ (∀ x ∈ l, x < 128) ∧ ∀ H' m, But a H H' → PotAt H' a (c + 6) → m.length ≤ 5 * l.length + 200 → (∀ x ∈ m, x < 128) → Q (.str (S m)) H'
theorem ok_Lbent_text (T : Txt K mg) : Ok P w K mg base CX0 (4) "_law_bent_text" s_Lbent_text ["pot", "text"] (sp_Lbent_text K) := by
  obtain ⟨fd, D⟩ := T.d_Lbent_text
  refine ⟨⟨_, fd, T.g__law_bent_text, D, D.bindsN (fun _ _ _ _ _ _ us hl => match us, hl with | [_, _], _ => rfl), ?_⟩⟩
  refine D.ok sc_Lbent_text (fun vs H Q E h => ?_) (fun cdv A outer s H vs Q E hr h => ?_)
  · obtain ⟨a, c, l, rfl, hP, hc, hl, ha, q⟩ := h
    rfl
  · obtain ⟨a, c, l, rfl, hP, hc, hl, ha, q⟩ := h
    have F_Ltake := ok_Ltake (P := P) (w := w) (K := K) (mg := mg) (base := base) T
    have F_Lbent_line := ok_Lbent_line (P := P) (w := w) (K := K) (mg := mg) (base := base) T
    have F_Lof := ok_Lof (P := P) (w := w) (K := K) (mg := mg) (base := base) T
    refine ⟨_, PSs.nox (pss_cons (ps_par (i := 3) (j := 4) (by rfl) sc_Lbent_text.nd rfl rfl (by decide) rfl rfl (pa_cons (pe_split (pv 1) (pe_strS [10] (by rfl))) (pa_cons (pe_cl F_Ltake hr (by rfl) pass0 (pa_cons (pv 0) (pa_cons pe_int pa_nil))) pa_nil)) (by rfl))
      (pss_cons (ps_set (i := 2) sc_Lbent_text.nd rfl (by first | exact Or.inl rfl | exact Or.inr rfl) (pe_cl F_Ltake hr (by rfl) pass0 (pa_cons (pv 0) (pa_cons (pe_callB k_lnQ (by rfl) T.z_len (by decide +kernel) (pa_cons (pv 3) pa_nil)) pa_nil))))
      (pss_cons (ps_if (pt_cmpR op_eq (pv 4) pe_int (nomark _))
        (pss_one (ps_set (i := 3) sc_Lbent_text.nd rfl (by first | exact Or.inl rfl | exact Or.inr rfl) (pe_op op_cat (pe_slice sl_list (pv 3) po_none (po_some (pv 2))) (pe_slice sl_list (pv 3) (po_some (pe_op op_add (pv 2) pe_int)) po_none))))
        (pss_one (ps_if (pt_cmpR op_eq (pv 4) pe_int (nomark _))
        (pss_one (ps_set (i := 3) sc_Lbent_text.nd rfl (by first | exact Or.inl rfl | exact Or.inr rfl) (pe_op op_cat (pe_slice sl_list (pv 3) po_none (po_some (pe_op op_add (pv 2) pe_int))) (pe_slice sl_list (pv 3) (po_some (pv 2)) po_none))))
        (pss_one (ps_if (pt_cmpR op_lt (pv 4) pe_int (nomark _))
        (pss_one (ps_set (i := 3) sc_Lbent_text.nd rfl (by first | exact Or.inl rfl | exact Or.inr rfl) (pe_op op_cat (pe_op op_cat (pe_slice sl_list (pv 3) po_none (po_some (pv 2))) (pe_lst (pa_cons (pe_cl F_Lbent_line hr (by rfl) pass0 (pa_cons (pv 0) (pa_cons (pe_ix ix_list (pv 3) (pv 2) (fun _ _ => rfl)) pa_nil))) pa_nil))) (pe_slice sl_list (pv 3) (po_some (pe_op op_add (pv 2) pe_int)) po_none))))
        (pss_one (ps_if (pt_cmpR op_eq (pv 4) pe_int (nomark _))
        (pss_one (ps_set (i := 3) sc_Lbent_text.nd rfl (by first | exact Or.inl rfl | exact Or.inr rfl) (pe_op op_cat (pe_op op_cat (pe_slice sl_list (pv 3) po_none (po_some (pv 2))) (pe_revL (pe_slice sl_list (pv 3) (po_some (pv 2)) (po_some (pe_op op_add (pv 2) pe_int))))) (pe_slice sl_list (pv 3) (po_some (pe_op op_add (pv 2) pe_int)) po_none))))
        (pss_one (ps_if (pt_cmpR op_eq (pv 4) pe_int (nomark _))
        (pss_one (ps_set (i := 3) sc_Lbent_text.nd rfl (by first | exact Or.inl rfl | exact Or.inr rfl) (pe_slice sl_list (pv 3) po_none (po_some (pe_op op_add (pv 2) pe_int)))))
        (pss_cons (ps_set (i := 5) sc_Lbent_text.nd rfl (by first | exact Or.inl rfl | exact Or.inr rfl) (pe_lst (pa_cons (pe_strS [] (by rfl)) (pa_cons (pe_strS [32] (by rfl)) (pa_cons (pe_strS [108, 97, 119] (by rfl)) (pa_cons (pe_strS [115, 116, 97, 116, 101, 32, 97] (by rfl)) (pa_cons (pe_strS [115, 116, 97, 116, 101, 32, 98, 32, 111, 102, 116, 101, 110] (by rfl)) (pa_cons (pe_strS [111, 110, 32, 110, 32, 97] (by rfl)) (pa_cons (pe_strS [111, 110, 32, 102, 32, 98] (by rfl)) (pa_cons (pe_strS [111, 110, 32, 115, 32, 97] (by rfl)) (pa_cons (pe_strS [111, 110, 32, 120, 32, 97] (by rfl)) pa_nil)))))))))))
      (pss_cons (ps_expr (pe_bm PySem.F.plainAttrs_list PySem.F.slot_list_append PySem.F.type_list_append mt_append (pv 5) (pa_cons (pe_strS [103, 105, 118, 101, 110, 32, 97, 32, 97, 32, 101, 110, 100, 115, 32, 97, 32, 97] (by rfl)) pa_nil)))
      (pss_one (ps_set (i := 3) sc_Lbent_text.nd rfl (by first | exact Or.inl rfl | exact Or.inr rfl) (pe_op op_cat (pe_op op_cat (pe_slice sl_list (pv 3) po_none (po_some (pe_op op_add (pv 2) pe_int))) (pe_lst (pa_cons (pe_cl F_Lof hr (by rfl) pass0 (pa_cons (pv 0) (pa_cons (pv 5) pa_nil))) pa_nil))) (pe_slice sl_list (pv 3) (po_some (pe_op op_add (pv 2) pe_int)) po_none)))))))))))))))
      (pss_one (ps_ret (pe_jn (pe_strS [10] (by rfl)) (pv 3))))))), ?_⟩
    obtain ⟨c1, _, c3⟩ := cutL_ok 10 l
    obtain ⟨c4, c5⟩ := cutL_len 10 l
    have B : Bnt (l.length + 1) (cutL 10 l) := ⟨Nat.le_of_eq (tot_cut 10 l), cutL_asc ha⟩
    walk_at "r"
    refine ⟨⟨_, rfl⟩, ?_⟩
    walk_at "r"
    refine ⟨_, _, rfl, rfl, rfl, by rw [S_len]; exact lt_line (by omega), ?_⟩
    rw [split_cut (by decide)]
    generalize cutL 10 l = ws at c1 c3 c4 c5 B ⊢
    refine r_newS fun H1 p1 s1 hp1 h1 => ?_
    have P1 := hP.same s1
    have n1 := hP.fresh hp1
    walk_at "r"
    refine ⟨a, 9, c, rfl, P1, by omega, by decide, by decide, fun H2 way b2 P2 w0 w8 => ?_⟩
    walk_at "r"
    refine ⟨_, _, rfl, ?_⟩
    have h2 := b2 _ _ n1 h1
    walk_at "r"
    refine r_lnL (SqL.of h2) ?_
    walk_at "r"
    have hwl : 0 < ws.length := List.length_pos_iff.mpr c1
    refine ⟨a, _, _, rfl, P2, by omega, by rw [List.length_map]; omega, by rw [List.length_map]; omega, fun H3 at0 b3 P3 a0 an => ?_⟩
    obtain ⟨n, rfl⟩ := Int.eq_ofNat_of_zero_le a0
    rw [List.length_map] at an
    have hn : n < ws.length := by omega
    have h3 := b3 _ _ n1 h2
    have B3 := ((But.of s1).trans b2).trans b3
    refine r_name ?_
    walk_at "rq"
    refine Tf.s_cut (fun σ' H' => ∃ r m y vs, σ' = [some (.ref a), some (.str (S l)), some (.int (n : Int)), some (.ref r), some (.int way), y] ∧ But a H H' ∧ PotAt H' a (c + 6) ∧ H' r = some (.lst (vs.map fun l => V.str (S l))) ∧ Bnt m vs ∧ m ≤ 5 * l.length + 200) ?_ fun N fin => ?_
    · rintro σ' X ⟨r, m, y, vs, rfl, bX, PX, eX, hB, hm⟩
      walk_at "r"
      refine ⟨⟨_, rfl⟩, ?_⟩
      walk_at "r"
      have ht := hB.t
      have hj := (joinL_tot 10 vs).1
      exact r_joinSp (SqL.of eX) (by omega) (q _ _ bX PX (by omega) (joinL_asc (by decide) hB.a))
    have done : ∀ r m y vs X, But a H X → PotAt X a (c + 6) → X r = some (.lst (vs.map fun l => V.str (S l))) → Bnt m vs → m ≤ 5 * l.length + 200 → N [some (.ref a), some (.str (S l)), some (.int (n : Int)), some (.ref r), some (.int way), y] X := fun r m y vs X h1 h2 h3 h5 h6 => fin _ _ ⟨r, m, y, vs, rfl, h1, h2, h3, h5, h6⟩
    have fin2 : ∀ r m y vs X, But a H X → PotAt X a (c + 6) → X r = some (.lst (vs.map fun l => V.str (S l))) → Bnt m vs → m ≤ 5 * l.length + 200 → N [some (.ref a), some (.str (S l)), some (.int (n : Int)), some (.ref r), some (.int way), y] X := done
    clear q fin h1 h2 hP P1 P2
    walk_at "r"
    refine r_dec (fun g0 => ?_) (fun g0 => ?_)
    · walk_at "r"
      refine r_wsTo n rfl h3 fun X1 q1 t1 _ f1 => ?_
      walk_at "r"
      refine r_wsFrom (n + 1) (by omega) (by omega) (t1 _ _ h3) fun X2 q2 t2 _ f2 => ?_
      have k1 := (B.take n).len
      have k2 := (B.drop (n + 1)).len
      refine r_wsCat (t2 _ _ f1) f2 (by omega) fun X3 q3 t3 _ f3 => ?_
      have tA := Same.trans (Same.trans t1 t2) t3
      walk_at "r"
      exact done _ _ _ _ _ (B3.trans (But.of tA)) ((P3.same tA).mono (by omega)) f3 ((B.take n).app (B.drop (n + 1))) (by omega)
    walk_at "r"
    refine r_dec (fun g1 => ?_) (fun g1 => ?_)
    · walk_at "r"
      refine r_wsTo (n + 1) (by omega) h3 fun X1 q1 t1 _ f1 => ?_
      walk_at "r"
      refine r_wsFrom n rfl (by omega) (t1 _ _ h3) fun X2 q2 t2 _ f2 => ?_
      have k1 := (B.take (n + 1)).len
      have k2 := (B.drop n).len
      refine r_wsCat (t2 _ _ f1) f2 (by omega) fun X3 q3 t3 _ f3 => ?_
      have tA := Same.trans (Same.trans t1 t2) t3
      walk_at "r"
      exact done _ _ _ _ _ (B3.trans (But.of tA)) ((P3.same tA).mono (by omega)) f3 ((B.take (n + 1)).app (B.drop n)) (by omega)
    walk_at "r"
    refine r_dec (fun g2 => ?_) (fun g2 => ?_)
    · walk_at "r"
      refine r_wsTo n rfl h3 fun X1 q1 t1 _ f1 => ?_
      walk_at "r"
      obtain ⟨w, ew⟩ : ∃ w, ws[n]? = some w := ⟨_, List.getElem?_eq_getElem hn⟩
      have mw := List.mem_of_getElem? ew
      have lw := c5 w mw
      refine r_ixL (SqL.of (t1 _ _ h3)) (words_at ew) ?_
      have PX1 := P3.same t1
      refine ⟨a, _, w, rfl, PX1, by omega, by omega, B.a w mw, fun X2 m b4 P4 lm am => ?_⟩
      have nq1 : q1 ≠ a := fun z => names_pot PX1 f1 z
      have f1' := b4 _ _ nq1 f1
      have h4 := b4 _ _ n1 (t1 _ _ h3)
      walk_at "r"
      refine ⟨by show 1 ≤ sizeLine; decide, fun q2 hq2 => ?_⟩
      have t2 := same_new hq2 (o := .lst [.str (S m)])
      have k1 := (B.take n).len
      refine r_wsCat (vs := [m]) (t2 _ _ f1') upd_same (by simp only [List.length_cons, List.length_nil]; omega) fun X3 q3 t3 _ f3 => ?_
      walk_at "r"
      have tB := Same.trans t2 t3
      refine r_wsFrom (n + 1) (by omega) (by omega) (tB _ _ h4) fun X4 q4 t4 _ f4 => ?_
      have k2 := (B.drop (n + 1)).len
      have B1 : Bnt (3 * w.length + 101) [m] := Bnt.one (by omega) am
      have B2 := (B.take n).app B1
      have k3 := B2.len
      refine r_wsCat (t4 _ _ f3) f4 (by omega) fun X5 q5 t5 _ f5 => ?_
      have tC := Same.trans (Same.trans tB t4) t5
      walk_at "r"
      exact done _ _ _ _ _ (((B3.trans (But.of t1)).trans b4).trans (But.of tC)) ((P4.same tC).mono (by omega)) f5 (B2.app (B.drop (n + 1))) (by omega)
    walk_at "r"
    refine r_dec (fun g3 => ?_) (fun g3 => ?_)
    · walk_at "r"
      refine r_wsTo n rfl h3 fun X1 q1 t1 _ f1 => ?_
      walk_at "r"
      refine r_wsMid (t1 _ _ h3) fun X2 q2 mid t2 _ tm mm f2 => ?_
      refine ⟨q2, _, rfl, SqL.of f2, fun q3 hq3 => ?_⟩
      rw [← List.map_reverse]
      have t3 := same_new hq3 (o := .lst (mid.reverse.map fun l => V.str (S l)))
      have BM : Bnt (l.length + 1) mid := ⟨Nat.le_trans tm B.t, fun w hw => B.a w (mm w hw)⟩
      have k1 := (B.take n).len
      have k2 := BM.rev.len
      refine r_wsCat (t3 _ _ (t2 _ _ f1)) upd_same (by omega) fun X4 q4 t4 _ f4 => ?_
      have tB := Same.trans (Same.trans (Same.trans t1 t2) t3) t4
      have B2 := (B.take n).app BM.rev
      have k3 := B2.len
      walk_at "r"
      by_cases hn2 : n + 2 ≤ ws.length
      · refine r_wsFrom (n + 2) (by omega) hn2 (tB _ _ h3) fun X5 q5 t5 _ f5 => ?_
        have k4 := (B.drop (n + 2)).len
        refine r_wsCat (t5 _ _ f4) f5 (by omega) fun X6 q6 t6 _ f6 => ?_
        have tC := Same.trans (Same.trans tB t5) t6
        walk_at "r"
        exact done _ _ _ _ _ (B3.trans (But.of tC)) ((P3.same tC).mono (by omega)) f6 (B2.app (B.drop (n + 2))) (by omega)
      · refine r_wsMid (tB _ _ h3) fun X5 q5 en t5 _ te me f5 => ?_
        have BE : Bnt (l.length + 1) en := ⟨Nat.le_trans te B.t, fun w hw => B.a w (me w hw)⟩
        have k4 := BE.len
        refine r_wsCat (t5 _ _ f4) f5 (by omega) fun X6 q6 t6 _ f6 => ?_
        have tC := Same.trans (Same.trans tB t5) t6
        walk_at "r"
        exact done _ _ _ _ _ (B3.trans (But.of tC)) ((P3.same tC).mono (by omega)) f6 (B2.app BE) (by omega)
    walk_at "r"
    refine r_dec (fun g4 => ?_) (fun g4 => ?_)
    · walk_at "r"
      refine r_wsTo (n + 1) (by omega) h3 fun X1 q1 t1 _ f1 => ?_
      walk_at "r"
      exact done _ _ _ _ _ (B3.trans (But.of t1)) ((P3.same t1).mono (by omega)) f1 (B.take (n + 1)) (by omega)
    walk_at "r"
    refine ⟨by show 9 ≤ sizeLine; decide, fun g hg => ?_⟩
    have z1 := same_new hg (o := .lst [.str (S []), .str (S [32]), .str (S [108, 97, 119]), .str (S [115, 116, 97, 116, 101, 32, 97]), .str (S [115, 116, 97, 116, 101, 32, 98, 32, 111, 102, 116, 101, 110]), .str (S [111, 110, 32, 110, 32, 97]), .str (S [111, 110, 32, 102, 32, 98]), .str (S [111, 110, 32, 115, 32, 97]), .str (S [111, 110, 32, 120, 32, 97])])
    have e1 : (upd H3 g (.lst [.str (S []), .str (S [32]), .str (S [108, 97, 119]), .str (S [115, 116, 97, 116, 101, 32, 97]), .str (S [115, 116, 97, 116, 101, 32, 98, 32, 111, 102, 116, 101, 110]), .str (S [111, 110, 32, 110, 32, 97]), .str (S [111, 110, 32, 102, 32, 98]), .str (S [111, 110, 32, 115, 32, 97]), .str (S [111, 110, 32, 120, 32, 97])])) g = some (.lst (([[], [32], [108, 97, 119], [115, 116, 97, 116, 101, 32, 97], [115, 116, 97, 116, 101, 32, 98, 32, 111, 102, 116, 101, 110], [111, 110, 32, 110, 32, 97], [111, 110, 32, 102, 32, 98], [111, 110, 32, 115, 32, 97], [111, 110, 32, 120, 32, 97]] : List (List Nat)).map fun l => V.str (S l))) := upd_same
    have PG := P3.same z1
    have ng := P3.fresh hg
    generalize upd H3 g (.lst [.str (S []), .str (S [32]), .str (S [108, 97, 119]), .str (S [115, 116, 97, 116, 101, 32, 97]), .str (S [115, 116, 97, 116, 101, 32, 98, 32, 111, 102, 116, 101, 110]), .str (S [111, 110, 32, 110, 32, 97]), .str (S [111, 110, 32, 102, 32, 98]), .str (S [111, 110, 32, 115, 32, 97]), .str (S [111, 110, 32, 120, 32, 97])]) = X1 at z1 e1 PG ⊢
    walk_at "r"
    refine ⟨_, rfl, .inl ⟨rfl, _, SqL.of e1⟩, ?_⟩
    walk_at "r"
    refine ⟨g, _, _, rfl, rfl, e1, by decide, ?_⟩
    walk_at "r"
    have hg3 : H3 g = none := hg
    have z2 : Same H3 (upd X1 g (.lst (([[], [32], [108, 97, 119], [115, 116, 97, 116, 101, 32, 97], [115, 116, 97, 116, 101, 32, 98, 32, 111, 102, 116, 101, 110], [111, 110, 32, 110, 32, 97], [111, 110, 32, 102, 32, 98], [111, 110, 32, 115, 32, 97], [111, 110, 32, 120, 32, 97]] : List (List Nat)).map (fun l => V.str (S l)) ++ [.str (S [103, 105, 118, 101, 110, 32, 97, 32, 97, 32, 101, 110, 100, 115, 32, 97, 32, 97])]))) := Same.mut z1 hg3
    have e2 : (upd X1 g (.lst (([[], [32], [108, 97, 119], [115, 116, 97, 116, 101, 32, 97], [115, 116, 97, 116, 101, 32, 98, 32, 111, 102, 116, 101, 110], [111, 110, 32, 110, 32, 97], [111, 110, 32, 102, 32, 98], [111, 110, 32, 115, 32, 97], [111, 110, 32, 120, 32, 97]] : List (List Nat)).map (fun l => V.str (S l)) ++ [.str (S [103, 105, 118, 101, 110, 32, 97, 32, 97, 32, 101, 110, 100, 115, 32, 97, 32, 97])]))) g = some (.lst (([[], [32], [108, 97, 119], [115, 116, 97, 116, 101, 32, 97], [115, 116, 97, 116, 101, 32, 98, 32, 111, 102, 116, 101, 110], [111, 110, 32, 110, 32, 97], [111, 110, 32, 102, 32, 98], [111, 110, 32, 115, 32, 97], [111, 110, 32, 120, 32, 97], [103, 105, 118, 101, 110, 32, 97, 32, 97, 32, 101, 110, 100, 115, 32, 97, 32, 97]] : List (List Nat)).map fun l => V.str (S l))) := upd_same
    have PG2 : PotAt (upd X1 g (.lst (([[], [32], [108, 97, 119], [115, 116, 97, 116, 101, 32, 97], [115, 116, 97, 116, 101, 32, 98, 32, 111, 102, 116, 101, 110], [111, 110, 32, 110, 32, 97], [111, 110, 32, 102, 32, 98], [111, 110, 32, 115, 32, 97], [111, 110, 32, 120, 32, 97]] : List (List Nat)).map (fun l => V.str (S l)) ++ [.str (S [103, 105, 118, 101, 110, 32, 97, 32, 97, 32, 101, 110, 100, 115, 32, 97, 32, 97])]))) a _ := PG.ne ng
    generalize upd X1 g (.lst (([[], [32], [108, 97, 119], [115, 116, 97, 116, 101, 32, 97], [115, 116, 97, 116, 101, 32, 98, 32, 111, 102, 116, 101, 110], [111, 110, 32, 110, 32, 97], [111, 110, 32, 102, 32, 98], [111, 110, 32, 115, 32, 97], [111, 110, 32, 120, 32, 97]] : List (List Nat)).map (fun l => V.str (S l)) ++ [.str (S [103, 105, 118, 101, 110, 32, 97, 32, 97, 32, 101, 110, 100, 115, 32, 97, 32, 97])])) = X2 at z2 e2 PG2 ⊢
    refine r_wsTo (n + 1) (by omega) (z2 _ _ h3) fun X3 q1 t1 hq1 f1 => ?_
    walk_at "r"
    have nq1 := PG2.fresh hq1
    have PG3 := PG2.same t1
    refine ⟨a, g, _, _, rfl, PG3, by omega, SqL.of (t1 _ _ e2), ng, by decide, by decide, fun X4 v b4 P4 hv => ?_⟩
    obtain ⟨m, hm, rfl⟩ := List.mem_map.mp hv
    have hmm : m.length < 30 ∧ ∀ c ∈ m, c < 128 := by
      have : ∀ m ∈ ([[], [32], [108, 97, 119], [115, 116, 97, 116, 101, 32, 97], [115, 116, 97, 116, 101, 32, 98, 32, 111, 102, 116, 101, 110], [111, 110, 32, 110, 32, 97], [111, 110, 32, 102, 32, 98], [111, 110, 32, 115, 32, 97], [111, 110, 32, 120, 32, 97], [103, 105, 118, 101, 110, 32, 97, 32, 97, 32, 101, 110, 100, 115, 32, 97, 32, 97]] : List (List Nat)), m.length < 30 ∧ ∀ c ∈ m, c < 128 := by decide +kernel
      exact this m hm
    have f1' := b4 _ _ nq1 f1
    have h4 := b4 _ _ n1 (t1 _ _ (z2 _ _ h3))
    walk_at "r"
    refine ⟨by show 1 ≤ sizeLine; decide, fun q2 hq2 => ?_⟩
    have t2 := same_new hq2 (o := .lst [.str (S m)])
    have k1 := (B.take (n + 1)).len
    refine r_wsCat (vs := [m]) (t2 _ _ f1') upd_same (by simp only [List.length_cons, List.length_nil]; omega) fun X5 q3 t3 _ f3 => ?_
    walk_at "r"
    have tB := Same.trans t2 t3
    refine r_wsFrom (n + 1) (by omega) (by omega) (tB _ _ h4) fun X6 q4 t4 _ f4 => ?_
    have k2 := (B.drop (n + 1)).len
    have B1 : Bnt 30 [m] := Bnt.one hmm.1 hmm.2
    have B2 := (B.take (n + 1)).app B1
    have k3 := B2.len
    refine r_wsCat (t4 _ _ f3) f4 (by omega) fun X7 q5 t5 _ f5 => ?_
    have tC := Same.trans (Same.trans tB t4) t5
    walk_at "r"
    exact fin2 _ _ _ _ _ (((B3.trans (But.of (Same.trans z2 t1))).trans b4).trans (But.of tC)) ((P4.same tC).mono (by omega)) f5 (B2.app (B.drop (n + 1))) (by omega)

def sp_Law___eq__ (K : PySem.W.Frag) : Sp := fun vs H Q _ => ∃ x rs v, vs = [.ref x, v] ∧ RuleAt (He.ga K "Law") H x rs ∧
  ((∃ y rs2, v = .ref y ∧ RuleAt (He.ga K "Law") H y rs2 ∧ ∀ H', Same H H' → Q (.bl (decide (textF rs = textF rs2))) H') ∨ ∃ z, v = .str z ∧ ∀ H', Same H H' → Q (.bl false) H')
theorem ok_Law___eq__ (T : Txt K mg) : OkM P w K mg base CX0 (7) "Law" "__eq__" ["self", "other"] (sp_Law___eq__ K) := by
  obtain ⟨fd, D⟩ := T.d_Law___eq__
  refine ⟨⟨fd, D.bindsN (fun _ _ _ _ _ _ us hl => match us, hl with | [_, _], _ => rfl), ?_⟩⟩
  refine D.ok sc_Law___eq__ (fun vs H Q E h => ?_) (fun cdv A outer s H vs Q E hr h => ?_)
  · obtain ⟨x, rs, v, rfl, hx, h⟩ := h
    rfl
  · obtain ⟨x, rs, v, rfl, hx, h⟩ := h
    refine ⟨_, PSs.nox (pss_one (ps_ret (pe_and (pe_callB call_isi (by rfl) T.z_isinstance (by decide +kernel) (pa_cons (pv 1) (pa_cons (pe_glob (v := .ref _) (by rfl) T.g_Law rfl) pa_nil))) (pe_one (pe_cmpR op_eq (pe_fld (pv 0) rfl) (pe_fld (pv 1) rfl) (nomark _)))))), ?_⟩
    walk_at "r"
    rcases h with ⟨y, rs2, rfl, hy, q⟩ | ⟨z, rfl, q⟩
    · obtain ⟨dy, fy, y1, y2⟩ := hy.text
      refine r_isiO T.i_Law T.cl_Law y1 ?_
      walk_at "r"
      obtain ⟨dx, fx, x1, x2⟩ := hx.text
      refine ⟨x, _, dx, fx, _, rfl, x1, T.cl_Law, T.na_Law_text, x2, ?_⟩
      walk_at "r"
      refine ⟨y, _, dy, fy, _, rfl, y1, T.cl_Law, T.na_Law_text, y2, ?_⟩
      walk_at "r"
      have := q H (Same.refl _)
      rw [show decide (V.str (textF rs) = V.str (textF rs2)) = decide (textF rs = textF rs2) from decide_eq_decide.mpr ⟨fun h => V.str.inj h, fun h => by rw [h]⟩]
      exact this
    · refine r_isiOs T.i_Law ?_
      walk_at "r"
      exact q _ (Same.refl _)
def sp_Law___len__ (K : PySem.W.Frag) : Sp := fun vs H Q _ => ∃ x rs, vs = [.ref x] ∧ RuleAt (He.ga K "Law") H x rs ∧ ∀ H', Same H H' → Q (.int (rs.length : Nat)) H'
theorem ok_Law___len__ (T : Txt K mg) : OkM P w K mg base CX0 (1) "Law" "__len__" ["self"] (sp_Law___len__ K) := by
  obtain ⟨fd, D⟩ := T.d_Law___len__
  refine ⟨⟨fd, D.bindsN (fun _ _ _ _ _ _ us hl => match us, hl with | [_], _ => rfl), ?_⟩⟩
  refine D.ok sc_Law___len__ (fun vs H Q E h => ?_) (fun cdv A outer s H vs Q E hr h => ?_)
  · obtain ⟨x, rs, rfl, hx, q⟩ := h
    rfl
  · obtain ⟨x, rs, rfl, hx, q⟩ := h
    refine ⟨_, PSs.nox (pss_one (ps_ret (pe_callB k_lnQ (by rfl) T.z_len (by decide +kernel) (pa_cons (pe_fld (pv 0) rfl) pa_nil)))), ?_⟩
    walk_at "r"
    obtain ⟨dx, fx, n, x1, x2, hn⟩ := hx.names
    refine ⟨x, _, dx, fx, _, rfl, x1, T.cl_Law, T.na_Law_names, x2, ?_⟩
    refine r_lnU (SqT.of hn) ?_
    rw [List.length_map, List.length_map]
    exact q _ (Same.refl _)

def sp_Llaw_text (K : PySem.W.Frag) : Sp := fun vs H Q _ => ∃ a rs, vs = [.ref a] ∧ OwnAt K H a rs ∧ ShortRs rs ∧ ∀ H', Same H H' → Q (.str (textF rs)) H'
theorem ok_Llaw_text (T : Txt K mg) : Ok P w K mg base CX0 (1) "_law_law_text" s_Llaw_text ["own"] (sp_Llaw_text K) := by
  obtain ⟨fd, D⟩ := T.d_Llaw_text
  refine ⟨⟨_, fd, T.g__law_law_text, D, D.bindsN (fun _ _ _ _ _ _ us hl => match us, hl with | [_], _ => rfl), ?_⟩⟩
  refine D.ok sc_Llaw_text (fun vs H Q E h => ?_) (fun cdv A outer s H vs Q E hr h => ?_)
  · obtain ⟨a, rs, rfl, ⟨ts, hL, hp⟩, hw, q⟩ := h
    rfl
  · obtain ⟨a, rs, rfl, ⟨ts, hL, hp⟩, hw, q⟩ := h
    refine ⟨_, PSs.nox (pss_cons (ps_set (i := 1) sc_Llaw_text.nd rfl (by first | exact Or.inl rfl | exact Or.inr rfl) (pe_lst (pa_cons (pe_strS [108, 97, 119] (by rfl)) pa_nil)))
      (pss_cons (ps_for PassesOwn.never rfl (pi_list (pv 0)) (pg_tup rfl (pgs_cons (pg_name (i := 2) sc_Llaw_text.nd rfl (by first | exact Or.inl rfl | exact Or.inr rfl)) (pgs_cons (pg_name (i := 3) sc_Llaw_text.nd rfl (by first | exact Or.inl rfl | exact Or.inr rfl)) (pgs_cons (pg_name (i := 4) sc_Llaw_text.nd rfl (by first | exact Or.inl rfl | exact Or.inr rfl)) pgs_nil))))
        (pss_cons (ps_expr (pe_bm PySem.F.plainAttrs_list PySem.F.slot_list_append PySem.F.type_list_append mt_append (pv 1) (pa_cons (pe_op o_addS (pe_op o_addS (pe_strS [115, 116, 97, 116, 101, 32] (by rfl)) (pv 2)) (pe_ifExp (pt_val (pv 3)) (pe_strS [32, 111, 102, 116, 101, 110] (by rfl)) (pe_strS [] (by rfl)))) pa_nil)))
      (pss_one (ps_expr (pe_bm PySem.F.plainAttrs_list PySem.F.slot_list_extend PySem.F.type_list_extend mt_extend (pv 1) (pa_cons (pe_lc (own := [("letter", 5)]) (g := gName 5) (tt := tYes) rfl sc_Llaw_text.nd (pi_str (pe_strS [110, 102, 115] (by rfl))) (blkOk_by (N := ["own", "rows", "name", "is_often", "ways", "letter"]) (sc := defScope s_Llaw_text) (by decide +kernel)) (fun _ _ _ _ _ => (pg_name (i := 5) sc_Llaw_text.nd rfl (by first | exact Or.inl rfl | exact Or.inr rfl))) (fun _ _ _ _ _ => pts_nil) (fun _ _ _ _ _ => (pe_op o_addS (pe_op o_addS (pe_op o_addS (pe_strS [111, 110, 32] (by rfl)) (pv 5)) (pe_strS [32] (by rfl))) (pe_dget (by exact hu_of hr) (pv 4) (pv 5) (fun _ _ => rfl))))) pa_nil))))))
      (pss_one (ps_ret (pe_jn (pe_strS [10] (by rfl)) (pv 1)))))), ?_⟩
    walk_at "r"
    have hts : ts.length = rs.length := hp.length.symm
    have h6 := hw.len
    refine ⟨by show 1 ≤ sizeLine; decide, fun R hR => ?_⟩
    walk_at "r"
    have sR := same_new hR (o := .lst [.str (S [108, 97, 119])])
    refine ⟨a, rfl, ⟨_, Same.sql sR hL⟩, for_list (K := K) (a := a) (xs := ts.map V.ref) (fun i σ H' => ∃ y z u, σ = [some (.ref a), some (.ref R), y, z, u, none] ∧ Same H H' ∧ H' R = some (.lst ((linesF (rs.take i)).map fun l => V.str (S l)))) ⟨_, _, _, rfl, sR, upd_same⟩ (fun i σ H' _ h => by obtain ⟨_, _, _, _, s, _⟩ := h; exact Same.sql s hL) ?_ ?_⟩
    · rintro i x σ H' ex ⟨y, z, u, rfl, s, hl⟩
      rw [List.getElem?_map] at ex
      obtain ⟨t, et, rfl⟩ := Option.map_eq_some_iff.mp ex
      obtain ⟨r, er, d, ht, hd⟩ := paired_get hp et
      have hi : i < rs.length := (List.getElem?_eq_some_iff.mp er).1
      have hr : r ∈ rs := List.mem_of_getElem? er
      have n1 := (hw.nm r hr).1
      have ll : (linesF (rs.take i)).length ≤ 401 := by rw [linesF_len, List.length_take]; omega
      refine ⟨t, _, rfl, Same.sqt s ht, rfl, ?_⟩
      walk_at "r"
      refine ⟨_, rfl, .inl ⟨rfl, _, SqL.of hl⟩, ?_⟩
      walk_at "r"
      refine r_addS (by show 6 + r.nm.length ≤ 1000000; omega) ?_
      walk_at "r"
      refine r_iteS ?_
      refine r_addS (by have : (if r.oft = true then ([32, 111, 102, 116, 101, 110] : List Nat) else []).length ≤ 6 := (by cases r.oft <;> simp); rw [List.length_append]; show 6 + r.nm.length + _ ≤ 1000000; omega) ?_
      walk_at "r"
      refine ⟨R, _, _, rfl, rfl, hl, by rw [List.length_map]; exact lt_line (by omega), ?_⟩
      have s1 := Same.mut s hR (o := .lst ((linesF (rs.take i)).map (fun l => V.str (S l)) ++ [.str (S (stL r))]))
      have e1 : (upd H' R (.lst ((linesF (rs.take i)).map (fun l => V.str (S l)) ++ [.str (S (stL r))]))) R = some (.lst ((linesF (rs.take i)).map (fun l => V.str (S l)) ++ [.str (S (stL r))])) := upd_same
      unfold stL at s1 e1
      generalize upd H' R (.lst ((linesF (rs.take i)).map (fun l => V.str (S l)) ++ [.str (S ([115, 116, 97, 116, 101, 32] ++ r.nm ++ (if r.oft then [32, 111, 102, 116, 101, 110] else [])))])) = H1 at s1 e1 ⊢
      walk_at "r"
      refine ⟨_, rfl, .inl ⟨rfl, _, SqL.of e1⟩, ?_⟩
      walk_at "r"
      have hd1 := s1 _ _ hd
      refine ⟨_, rfl, fun D hD => lc_S (l := [110, 102, 115]) (fun j X => Same H1 X ∧ X D = some (.lst (((([110, 102, 115] : List Nat).map fun c => onL c (r.way c)).take j).map fun l => V.str (S l)))) ?_ ?_ ?_⟩
      · exact ⟨same_new hD, upd_same⟩
      · rintro j c X ec ⟨sX, hX⟩
        have hc : c = 110 ∨ c = 102 ∨ c = 115 := by
          have := List.mem_of_getElem? ec
          simpa using this
        have hj : j < 3 := (List.getElem?_eq_some_iff.mp ec).1
        have w1 := (hw.way r hr c hc).1
        walk_at "r"
        refine ⟨rfl, ?_⟩
        walk_at "r"
        refine r_addS (by simp) ?_
        walk_at "r"
        refine r_addS (by simp) ?_
        walk_at "r"
        refine ⟨d, _, rfl, by rw [← wK_get r.way hc]; exact DGet.k (k := .inr (S [c])) (sX _ _ hd1), ?_⟩
        refine r_addS (by simp; omega) ?_
        refine ⟨_, hX, ?_, Same.mut sX hD, ?_⟩
        · rw [List.length_map, List.length_take]
          exact lt_line (by omega)
        · rw [upd_same, take_snoc' (l := ([110, 102, 115] : List Nat).map fun c => onL c (r.way c)) (x := onL c (r.way c)) (by rw [List.getElem?_map, ec]; rfl), List.map_append]
          rfl
      · rintro X ⟨sX, hX⟩
        walk_at "r"
        refine ⟨R, D, _, _, rfl, rfl, sX _ _ e1, hX, ?_, ?_⟩
        · rw [List.length_append, List.length_map, List.length_map]
          exact Nat.le_of_lt (lt_line (by simp; omega))
        · walk_at "r"
          refine ⟨_, _, _, rfl, Same.mut (Same.trans s1 sX) hR, ?_⟩
          rw [upd_same, take_snoc' er, linesF_snoc, List.map_append]
          rw [List.append_assoc]
          rfl
    · rintro σ H' ⟨y, z, u, rfl, s, hl⟩
      walk_at "r"
      rw [List.length_map, hts, List.take_length] at hl
      refine ⟨⟨_, rfl⟩, ?_⟩
      walk_at "r"
      refine ⟨_, R, (linesF rs).map S, rfl, rfl, .inl (by rw [List.map_map]; exact SqL.of hl), ?_, ?_⟩
      · have h1 : ((linesF rs).map S).length ≤ 401 := by rw [List.length_map, linesF_len]; omega
        have h2 := sum_short (B := 20) (linesF rs) fun l hl => (hw.line hl).1
        rw [linesF_len] at h2
        rw [S_len]
        simp only [List.length_cons, List.length_nil]
        omega
      · exact q _ s

def sp_Lodd (K : PySem.W.Frag) : Sp := fun vs H Q _ => ∃ (a : Addr) (c : Int), vs = [.ref a] ∧ PotAt H a c ∧ c ≤ 900000 ∧ ∀ H' x d, But a H H' → PotAt H' a (c + 1) → (Dat K a H' d x ∧ txA d = true) → Q x H'
theorem ok_Lodd (T : Txt K mg) : Ok P w K mg base CX0 (3) "_law_odd" s_Lodd ["pot"] (sp_Lodd K) := by
  obtain ⟨fd, D⟩ := T.d_Lodd
  refine ⟨⟨_, fd, T.g__law_odd, D, D.bindsN (fun _ _ _ _ _ _ us hl => match us, hl with | [_], _ => rfl), ?_⟩⟩
  refine D.ok sc_Lodd (fun vs H Q E h => ?_) (fun cdv A outer s H vs Q E hr h => ?_)
  · obtain ⟨a, c, rfl, hP, hc, q⟩ := h
    rfl
  · obtain ⟨a, c, rfl, hP, hc, q⟩ := h
    have F_Lof := ok_Lof (P := P) (w := w) (K := K) (mg := mg) (base := base) T
    refine ⟨_, PSs.nox (pss_cons (ps_set (i := 1) sc_Lodd.nd rfl (by first | exact Or.inl rfl | exact Or.inr rfl) (pe_lst (pa_cons pe_non (pa_cons pe_bl (pa_cons pe_bl (pa_cons pe_int (pa_cons pe_int (pa_cons (pe_un un_neg pe_int) (pa_cons pe_int (pa_cons (pe_op op_powW pe_int pe_int) (pa_cons (pe_strS [] (by rfl)) (pa_cons (pe_strS [97] (by rfl)) (pa_cons (pe_strS [110] (by rfl)) (pa_cons (pe_strS [110, 102, 115] (by rfl)) (pa_cons (pe_strS [108, 97, 119] (by rfl)) (pa_cons (pe_strS [110, 102, 120] (by rfl)) (pa_cons (pe_tup pa_nil) (pa_cons (pe_lst pa_nil) (pa_cons pe_dnewK (pa_cons (pe_tup (pa_cons pe_int pa_nil)) pa_nil))))))))))))))))))))
      (pss_cons (ps_set (i := 1) sc_Lodd.nd rfl (by first | exact Or.inl rfl | exact Or.inr rfl) (pe_op op_cat (pv 1) (pe_lst (pa_cons (pe_tup (pa_cons (pe_strS [] (by rfl)) (pa_cons (pe_strS [110] (by rfl)) pa_nil))) (pa_cons (pe_tup (pa_cons (pe_strS [110] (by rfl)) (pa_cons (pe_strS [] (by rfl)) pa_nil))) (pa_cons (pe_tup (pa_cons (pe_strS [110, 102] (by rfl)) (pa_cons (pe_strS [115] (by rfl)) pa_nil))) (pa_cons (pe_lst (pa_cons (pe_strS [] (by rfl)) (pa_cons (pe_strS [110] (by rfl)) pa_nil))) (pa_cons (pe_tup (pa_cons (pe_strS [] (by rfl)) (pa_cons (pe_strS [110] (by rfl)) (pa_cons (pe_strS [102] (by rfl)) pa_nil)))) (pa_cons (pe_tup (pa_cons pe_non pa_nil)) (pa_cons (pe_disp (pps_cons (pe_strS [97] (by rfl)) pe_int pps_nil) (by rfl) (by rfl) (fun z => by cases z) (by decide)) (pa_cons (pe_tup (pa_cons pe_bl pa_nil)) (pa_cons (pe_tup (pa_cons pe_int (pa_cons pe_int pa_nil))) pa_nil))))))))))))
      (pss_cons (ps_expr (pe_bm PySem.F.plainAttrs_list PySem.F.slot_list_extend PySem.F.type_list_extend mt_extend (pv 1) (pa_cons (pe_lst (pa_cons (pe_tup (pa_cons (pe_tup (pa_cons (pe_strS [] (by rfl)) (pa_cons (pe_strS [110] (by rfl)) pa_nil))) pa_nil)) (pa_cons (pe_tup (pa_cons (pe_strS [121, 101, 115] (by rfl)) (pa_cons (pe_tup (pa_cons (pe_strS [] (by rfl)) (pa_cons (pe_strS [110] (by rfl)) pa_nil))) pa_nil))) (pa_cons (pe_tup (pa_cons (pe_strS [110, 111] (by rfl)) (pa_cons (pe_tup pa_nil) pa_nil))) (pa_cons (pe_tup (pa_cons pe_int (pa_cons pe_int pa_nil))) (pa_cons (pe_tup (pa_cons (pe_strS [78] (by rfl)) (pa_cons (pe_strS [110] (by rfl)) pa_nil))) (pa_cons (pe_tup (pa_cons pe_int (pa_cons pe_int pa_nil))) (pa_cons (pe_tup (pa_cons (pe_strS [102, 105, 114, 115, 116] (by rfl)) pa_nil)) (pa_cons (pe_strS [70] (by rfl)) pa_nil))))))))) pa_nil)))
      (pss_one (ps_ret (pe_cl F_Lof hr (by rfl) pass0 (pa_cons (pv 0) (pa_cons (pv 1) pa_nil)))))))), ?_⟩
    have hb : But a H H := But.refl
    walk_at "r"
    refine r_I (cpw (by decide) (by decide) (by decide) (by decide)) ?_
    rw [show ((10 : Int) ^ (8 : Int).toNat) = 100000000 from by decide]
    walk_at "r"
    refine ⟨by show 0 ≤ sizeLine; decide, fun p1 hp1 => ?_⟩
    have fp1 : (upd H p1 (.tup [])) p1 = some (.tup []) := upd_same
    have sp1 := same_new hp1 (o := .tup [])
    have np1 : p1 ≠ a := hP.fresh hp1
    replace hP := hP.same sp1
    replace hb := hb.trans (But.of sp1)
    clear sp1
    generalize upd H p1 (.tup []) = G1 at *
    walk_at "r"
    refine ⟨by show 0 ≤ sizeLine; decide, fun p2 hp2 => ?_⟩
    have fp2 : (upd G1 p2 (.lst [])) p2 = some (.lst []) := upd_same
    have sp2 := same_new hp2 (o := .lst [])
    have np2 : p2 ≠ a := hP.fresh hp2
    replace fp1 := sp2 _ _ fp1
    replace hP := hP.same sp2
    replace hb := hb.trans (But.of sp2)
    clear sp2
    generalize upd G1 p2 (.lst []) = G2 at *
    walk_at "r"
    refine fun p3 hp3 => ?_
    have fp3 : (upd G2 p3 (.dK [])) p3 = some (.dK []) := upd_same
    have sp3 := same_new hp3 (o := .dK [])
    have np3 : p3 ≠ a := hP.fresh hp3
    replace fp1 := sp3 _ _ fp1
    replace fp2 := sp3 _ _ fp2
    replace hP := hP.same sp3
    replace hb := hb.trans (But.of sp3)
    clear sp3
    generalize upd G2 p3 (.dK []) = G3 at *
    walk_at "r"
    refine ⟨by show 1 ≤ sizeLine; decide, fun p4 hp4 => ?_⟩
    have fp4 : (upd G3 p4 (.tup [.int 0])) p4 = some (.tup [.int 0]) := upd_same
    have sp4 := same_new hp4 (o := .tup [.int 0])
    have np4 : p4 ≠ a := hP.fresh hp4
    replace fp1 := sp4 _ _ fp1
    replace fp2 := sp4 _ _ fp2
    replace fp3 := sp4 _ _ fp3
    replace hP := hP.same sp4
    replace hb := hb.trans (But.of sp4)
    clear sp4
    generalize upd G3 p4 (.tup [.int 0]) = G4 at *
    walk_at "r"
    refine ⟨by show 18 ≤ sizeLine; decide, fun p5 hp5 => ?_⟩
    have fp5 : (upd G4 p5 (.lst [.non, .bl true, .bl false, .int 0, .int 1, .int (-1), .int 7, .int 100000000, .str (S []), .str (S [97]), .str (S [110]), .str (S [110, 102, 115]), .str (S [108, 97, 119]), .str (S [110, 102, 120]), .ref p1, .ref p2, .ref p3, .ref p4])) p5 = some (.lst [.non, .bl true, .bl false, .int 0, .int 1, .int (-1), .int 7, .int 100000000, .str (S []), .str (S [97]), .str (S [110]), .str (S [110, 102, 115]), .str (S [108, 97, 119]), .str (S [110, 102, 120]), .ref p1, .ref p2, .ref p3, .ref p4]) := upd_same
    have sp5 := same_new hp5 (o := .lst [.non, .bl true, .bl false, .int 0, .int 1, .int (-1), .int 7, .int 100000000, .str (S []), .str (S [97]), .str (S [110]), .str (S [110, 102, 115]), .str (S [108, 97, 119]), .str (S [110, 102, 120]), .ref p1, .ref p2, .ref p3, .ref p4])
    have np5 : p5 ≠ a := hP.fresh hp5
    replace fp1 := sp5 _ _ fp1
    replace fp2 := sp5 _ _ fp2
    replace fp3 := sp5 _ _ fp3
    replace fp4 := sp5 _ _ fp4
    replace hP := hP.same sp5
    replace hb := hb.trans (But.of sp5)
    clear sp5
    generalize upd G4 p5 (.lst [.non, .bl true, .bl false, .int 0, .int 1, .int (-1), .int 7, .int 100000000, .str (S []), .str (S [97]), .str (S [110]), .str (S [110, 102, 115]), .str (S [108, 97, 119]), .str (S [110, 102, 120]), .ref p1, .ref p2, .ref p3, .ref p4]) = G5 at *
    walk_at "r"
    refine ⟨by show 2 ≤ sizeLine; decide, fun p6 hp6 => ?_⟩
    have fp6 : (upd G5 p6 (.tup [.str (S []), .str (S [110])])) p6 = some (.tup [.str (S []), .str (S [110])]) := upd_same
    have sp6 := same_new hp6 (o := .tup [.str (S []), .str (S [110])])
    have np6 : p6 ≠ a := hP.fresh hp6
    replace fp1 := sp6 _ _ fp1
    replace fp2 := sp6 _ _ fp2
    replace fp3 := sp6 _ _ fp3
    replace fp4 := sp6 _ _ fp4
    replace fp5 := sp6 _ _ fp5
    replace hP := hP.same sp6
    replace hb := hb.trans (But.of sp6)
    clear sp6
    generalize upd G5 p6 (.tup [.str (S []), .str (S [110])]) = G6 at *
    walk_at "r"
    refine ⟨by show 2 ≤ sizeLine; decide, fun p7 hp7 => ?_⟩
    have fp7 : (upd G6 p7 (.tup [.str (S [110]), .str (S [])])) p7 = some (.tup [.str (S [110]), .str (S [])]) := upd_same
    have sp7 := same_new hp7 (o := .tup [.str (S [110]), .str (S [])])
    have np7 : p7 ≠ a := hP.fresh hp7
    replace fp1 := sp7 _ _ fp1
    replace fp2 := sp7 _ _ fp2
    replace fp3 := sp7 _ _ fp3
    replace fp4 := sp7 _ _ fp4
    replace fp5 := sp7 _ _ fp5
    replace fp6 := sp7 _ _ fp6
    replace hP := hP.same sp7
    replace hb := hb.trans (But.of sp7)
    clear sp7
    generalize upd G6 p7 (.tup [.str (S [110]), .str (S [])]) = G7 at *
    walk_at "r"
    refine ⟨by show 2 ≤ sizeLine; decide, fun p8 hp8 => ?_⟩
    have fp8 : (upd G7 p8 (.tup [.str (S [110, 102]), .str (S [115])])) p8 = some (.tup [.str (S [110, 102]), .str (S [115])]) := upd_same
    have sp8 := same_new hp8 (o := .tup [.str (S [110, 102]), .str (S [115])])
    have np8 : p8 ≠ a := hP.fresh hp8
    replace fp1 := sp8 _ _ fp1
    replace fp2 := sp8 _ _ fp2
    replace fp3 := sp8 _ _ fp3
    replace fp4 := sp8 _ _ fp4
    replace fp5 := sp8 _ _ fp5
    replace fp6 := sp8 _ _ fp6
    replace fp7 := sp8 _ _ fp7
    replace hP := hP.same sp8
    replace hb := hb.trans (But.of sp8)
    clear sp8
    generalize upd G7 p8 (.tup [.str (S [110, 102]), .str (S [115])]) = G8 at *
    walk_at "r"
    refine ⟨by show 2 ≤ sizeLine; decide, fun p9 hp9 => ?_⟩
    have fp9 : (upd G8 p9 (.lst [.str (S []), .str (S [110])])) p9 = some (.lst [.str (S []), .str (S [110])]) := upd_same
    have sp9 := same_new hp9 (o := .lst [.str (S []), .str (S [110])])
    have np9 : p9 ≠ a := hP.fresh hp9
    replace fp1 := sp9 _ _ fp1
    replace fp2 := sp9 _ _ fp2
    replace fp3 := sp9 _ _ fp3
    replace fp4 := sp9 _ _ fp4
    replace fp5 := sp9 _ _ fp5
    replace fp6 := sp9 _ _ fp6
    replace fp7 := sp9 _ _ fp7
    replace fp8 := sp9 _ _ fp8
    replace hP := hP.same sp9
    replace hb := hb.trans (But.of sp9)
    clear sp9
    generalize upd G8 p9 (.lst [.str (S []), .str (S [110])]) = G9 at *
    walk_at "r"
    refine ⟨by show 3 ≤ sizeLine; decide, fun p10 hp10 => ?_⟩
    have fp10 : (upd G9 p10 (.tup [.str (S []), .str (S [110]), .str (S [102])])) p10 = some (.tup [.str (S []), .str (S [110]), .str (S [102])]) := upd_same
    have sp10 := same_new hp10 (o := .tup [.str (S []), .str (S [110]), .str (S [102])])
    have np10 : p10 ≠ a := hP.fresh hp10
    replace fp1 := sp10 _ _ fp1
    replace fp2 := sp10 _ _ fp2
    replace fp3 := sp10 _ _ fp3
    replace fp4 := sp10 _ _ fp4
    replace fp5 := sp10 _ _ fp5
    replace fp6 := sp10 _ _ fp6
    replace fp7 := sp10 _ _ fp7
    replace fp8 := sp10 _ _ fp8
    replace fp9 := sp10 _ _ fp9
    replace hP := hP.same sp10
    replace hb := hb.trans (But.of sp10)
    clear sp10
    generalize upd G9 p10 (.tup [.str (S []), .str (S [110]), .str (S [102])]) = G10 at *
    walk_at "r"
    refine ⟨by show 1 ≤ sizeLine; decide, fun p11 hp11 => ?_⟩
    have fp11 : (upd G10 p11 (.tup [.non])) p11 = some (.tup [.non]) := upd_same
    have sp11 := same_new hp11 (o := .tup [.non])
    have np11 : p11 ≠ a := hP.fresh hp11
    replace fp1 := sp11 _ _ fp1
    replace fp2 := sp11 _ _ fp2
    replace fp3 := sp11 _ _ fp3
    replace fp4 := sp11 _ _ fp4
    replace fp5 := sp11 _ _ fp5
    replace fp6 := sp11 _ _ fp6
    replace fp7 := sp11 _ _ fp7
    replace fp8 := sp11 _ _ fp8
    replace fp9 := sp11 _ _ fp9
    replace fp10 := sp11 _ _ fp10
    replace hP := hP.same sp11
    replace hb := hb.trans (But.of sp11)
    clear sp11
    generalize upd G10 p11 (.tup [.non]) = G11 at *
    walk_at "r"
    refine fun p12 hp12 => ?_
    walk_at "r"
    refine ⟨upd_same, [(.inr (S [97]), .int 1)], rfl, by decide, ?_⟩
    rw [upd_upd, show mergeK [] [((.inr (S [97]) : Key), V.int 1)] = [(.inr (S [97]), .int 1)] from rfl]
    have fp12 : (upd G11 p12 (.dK [(.inr (S [97]), .int 1)])) p12 = some (.dK [(.inr (S [97]), .int 1)]) := upd_same
    have sp12 := same_new hp12 (o := .dK [(.inr (S [97]), .int 1)])
    have np12 : p12 ≠ a := hP.fresh hp12
    replace fp1 := sp12 _ _ fp1
    replace fp2 := sp12 _ _ fp2
    replace fp3 := sp12 _ _ fp3
    replace fp4 := sp12 _ _ fp4
    replace fp5 := sp12 _ _ fp5
    replace fp6 := sp12 _ _ fp6
    replace fp7 := sp12 _ _ fp7
    replace fp8 := sp12 _ _ fp8
    replace fp9 := sp12 _ _ fp9
    replace fp10 := sp12 _ _ fp10
    replace fp11 := sp12 _ _ fp11
    replace hP := hP.same sp12
    replace hb := hb.trans (But.of sp12)
    clear sp12
    generalize upd G11 p12 (.dK [(.inr (S [97]), .int 1)]) = G12 at *
    walk_at "r"
    refine ⟨by show 1 ≤ sizeLine; decide, fun p13 hp13 => ?_⟩
    have fp13 : (upd G12 p13 (.tup [.bl true])) p13 = some (.tup [.bl true]) := upd_same
    have sp13 := same_new hp13 (o := .tup [.bl true])
    have np13 : p13 ≠ a := hP.fresh hp13
    replace fp1 := sp13 _ _ fp1
    replace fp2 := sp13 _ _ fp2
    replace fp3 := sp13 _ _ fp3
    replace fp4 := sp13 _ _ fp4
    replace fp5 := sp13 _ _ fp5
    replace fp6 := sp13 _ _ fp6
    replace fp7 := sp13 _ _ fp7
    replace fp8 := sp13 _ _ fp8
    replace fp9 := sp13 _ _ fp9
    replace fp10 := sp13 _ _ fp10
    replace fp11 := sp13 _ _ fp11
    replace fp12 := sp13 _ _ fp12
    replace hP := hP.same sp13
    replace hb := hb.trans (But.of sp13)
    clear sp13
    generalize upd G12 p13 (.tup [.bl true]) = G13 at *
    walk_at "r"
    refine ⟨by show 2 ≤ sizeLine; decide, fun p14 hp14 => ?_⟩
    have fp14 : (upd G13 p14 (.tup [.int 0, .int 1])) p14 = some (.tup [.int 0, .int 1]) := upd_same
    have sp14 := same_new hp14 (o := .tup [.int 0, .int 1])
    have np14 : p14 ≠ a := hP.fresh hp14
    replace fp1 := sp14 _ _ fp1
    replace fp2 := sp14 _ _ fp2
    replace fp3 := sp14 _ _ fp3
    replace fp4 := sp14 _ _ fp4
    replace fp5 := sp14 _ _ fp5
    replace fp6 := sp14 _ _ fp6
    replace fp7 := sp14 _ _ fp7
    replace fp8 := sp14 _ _ fp8
    replace fp9 := sp14 _ _ fp9
    replace fp10 := sp14 _ _ fp10
    replace fp11 := sp14 _ _ fp11
    replace fp12 := sp14 _ _ fp12
    replace fp13 := sp14 _ _ fp13
    replace hP := hP.same sp14
    replace hb := hb.trans (But.of sp14)
    clear sp14
    generalize upd G13 p14 (.tup [.int 0, .int 1]) = G14 at *
    walk_at "r"
    refine ⟨by show 9 ≤ sizeLine; decide, fun p15 hp15 => ?_⟩
    have fp15 : (upd G14 p15 (.lst [.ref p6, .ref p7, .ref p8, .ref p9, .ref p10, .ref p11, .ref p12, .ref p13, .ref p14])) p15 = some (.lst [.ref p6, .ref p7, .ref p8, .ref p9, .ref p10, .ref p11, .ref p12, .ref p13, .ref p14]) := upd_same
    have sp15 := same_new hp15 (o := .lst [.ref p6, .ref p7, .ref p8, .ref p9, .ref p10, .ref p11, .ref p12, .ref p13, .ref p14])
    have np15 : p15 ≠ a := hP.fresh hp15
    replace fp1 := sp15 _ _ fp1
    replace fp2 := sp15 _ _ fp2
    replace fp3 := sp15 _ _ fp3
    replace fp4 := sp15 _ _ fp4
    replace fp5 := sp15 _ _ fp5
    replace fp6 := sp15 _ _ fp6
    replace fp7 := sp15 _ _ fp7
    replace fp8 := sp15 _ _ fp8
    replace fp9 := sp15 _ _ fp9
    replace fp10 := sp15 _ _ fp10
    replace fp11 := sp15 _ _ fp11
    replace fp12 := sp15 _ _ fp12
    replace fp13 := sp15 _ _ fp13
    replace fp14 := sp15 _ _ fp14
    replace hP := hP.same sp15
    replace hb := hb.trans (But.of sp15)
    clear sp15
    generalize upd G14 p15 (.lst [.ref p6, .ref p7, .ref p8, .ref p9, .ref p10, .ref p11, .ref p12, .ref p13, .ref p14]) = G15 at *
    walk_at "r"
    refine r_catL fp5 fp15 (by show 18 + 9 ≤ 1000000; decide) fun pc hpc => ?_
    simp only [List.cons_append, List.nil_append] at *
    have zpc : H pc = none := But.free hb (hP.fresh hpc) hpc
    have fpc : (upd G15 pc (.lst [.non, .bl true, .bl false, .int 0, .int 1, .int (-1), .int 7, .int 100000000, .str (S []), .str (S [97]), .str (S [110]), .str (S [110, 102, 115]), .str (S [108, 97, 119]), .str (S [110, 102, 120]), .ref p1, .ref p2, .ref p3, .ref p4, .ref p6, .ref p7, .ref p8, .ref p9, .ref p10, .ref p11, .ref p12, .ref p13, .ref p14])) pc = some (.lst [.non, .bl true, .bl false, .int 0, .int 1, .int (-1), .int 7, .int 100000000, .str (S []), .str (S [97]), .str (S [110]), .str (S [110, 102, 115]), .str (S [108, 97, 119]), .str (S [110, 102, 120]), .ref p1, .ref p2, .ref p3, .ref p4, .ref p6, .ref p7, .ref p8, .ref p9, .ref p10, .ref p11, .ref p12, .ref p13, .ref p14]) := upd_same
    have spc := same_new hpc (o := .lst [.non, .bl true, .bl false, .int 0, .int 1, .int (-1), .int 7, .int 100000000, .str (S []), .str (S [97]), .str (S [110]), .str (S [110, 102, 115]), .str (S [108, 97, 119]), .str (S [110, 102, 120]), .ref p1, .ref p2, .ref p3, .ref p4, .ref p6, .ref p7, .ref p8, .ref p9, .ref p10, .ref p11, .ref p12, .ref p13, .ref p14])
    have npc : pc ≠ a := hP.fresh hpc
    replace fp1 := spc _ _ fp1
    replace fp2 := spc _ _ fp2
    replace fp3 := spc _ _ fp3
    replace fp4 := spc _ _ fp4
    replace fp5 := spc _ _ fp5
    replace fp6 := spc _ _ fp6
    replace fp7 := spc _ _ fp7
    replace fp8 := spc _ _ fp8
    replace fp9 := spc _ _ fp9
    replace fp10 := spc _ _ fp10
    replace fp11 := spc _ _ fp11
    replace fp12 := spc _ _ fp12
    replace fp13 := spc _ _ fp13
    replace fp14 := spc _ _ fp14
    replace fp15 := spc _ _ fp15
    replace hP := hP.same spc
    replace hb := hb.trans (But.of spc)
    clear spc
    generalize upd G15 pc (.lst [.non, .bl true, .bl false, .int 0, .int 1, .int (-1), .int 7, .int 100000000, .str (S []), .str (S [97]), .str (S [110]), .str (S [110, 102, 115]), .str (S [108, 97, 119]), .str (S [110, 102, 120]), .ref p1, .ref p2, .ref p3, .ref p4, .ref p6, .ref p7, .ref p8, .ref p9, .ref p10, .ref p11, .ref p12, .ref p13, .ref p14]) = G16 at *
    walk_at "r"
    refine ⟨_, rfl, .inl ⟨rfl, _, SqL.of fpc⟩, ?_⟩
    walk_at "r"
    refine ⟨by show 2 ≤ sizeLine; decide, fun p17 hp17 => ?_⟩
    have fp17 : (upd G16 p17 (.tup [.str (S []), .str (S [110])])) p17 = some (.tup [.str (S []), .str (S [110])]) := upd_same
    have sp17 := same_new hp17 (o := .tup [.str (S []), .str (S [110])])
    have np17 : p17 ≠ a := hP.fresh hp17
    replace fp1 := sp17 _ _ fp1
    replace fp2 := sp17 _ _ fp2
    replace fp3 := sp17 _ _ fp3
    replace fp4 := sp17 _ _ fp4
    replace fp5 := sp17 _ _ fp5
    replace fp6 := sp17 _ _ fp6
    replace fp7 := sp17 _ _ fp7
    replace fp8 := sp17 _ _ fp8
    replace fp9 := sp17 _ _ fp9
    replace fp10 := sp17 _ _ fp10
    replace fp11 := sp17 _ _ fp11
    replace fp12 := sp17 _ _ fp12
    replace fp13 := sp17 _ _ fp13
    replace fp14 := sp17 _ _ fp14
    replace fp15 := sp17 _ _ fp15
    replace fpc := sp17 _ _ fpc
    replace hP := hP.same sp17
    replace hb := hb.trans (But.of sp17)
    clear sp17
    generalize upd G16 p17 (.tup [.str (S []), .str (S [110])]) = G17 at *
    walk_at "r"
    refine ⟨by show 1 ≤ sizeLine; decide, fun p18 hp18 => ?_⟩
    have fp18 : (upd G17 p18 (.tup [.ref p17])) p18 = some (.tup [.ref p17]) := upd_same
    have sp18 := same_new hp18 (o := .tup [.ref p17])
    have np18 : p18 ≠ a := hP.fresh hp18
    replace fp1 := sp18 _ _ fp1
    replace fp2 := sp18 _ _ fp2
    replace fp3 := sp18 _ _ fp3
    replace fp4 := sp18 _ _ fp4
    replace fp5 := sp18 _ _ fp5
    replace fp6 := sp18 _ _ fp6
    replace fp7 := sp18 _ _ fp7
    replace fp8 := sp18 _ _ fp8
    replace fp9 := sp18 _ _ fp9
    replace fp10 := sp18 _ _ fp10
    replace fp11 := sp18 _ _ fp11
    replace fp12 := sp18 _ _ fp12
    replace fp13 := sp18 _ _ fp13
    replace fp14 := sp18 _ _ fp14
    replace fp15 := sp18 _ _ fp15
    replace fpc := sp18 _ _ fpc
    replace fp17 := sp18 _ _ fp17
    replace hP := hP.same sp18
    replace hb := hb.trans (But.of sp18)
    clear sp18
    generalize upd G17 p18 (.tup [.ref p17]) = G18 at *
    walk_at "r"
    refine ⟨by show 2 ≤ sizeLine; decide, fun p19 hp19 => ?_⟩
    have fp19 : (upd G18 p19 (.tup [.str (S []), .str (S [110])])) p19 = some (.tup [.str (S []), .str (S [110])]) := upd_same
    have sp19 := same_new hp19 (o := .tup [.str (S []), .str (S [110])])
    have np19 : p19 ≠ a := hP.fresh hp19
    replace fp1 := sp19 _ _ fp1
    replace fp2 := sp19 _ _ fp2
    replace fp3 := sp19 _ _ fp3
    replace fp4 := sp19 _ _ fp4
    replace fp5 := sp19 _ _ fp5
    replace fp6 := sp19 _ _ fp6
    replace fp7 := sp19 _ _ fp7
    replace fp8 := sp19 _ _ fp8
    replace fp9 := sp19 _ _ fp9
    replace fp10 := sp19 _ _ fp10
    replace fp11 := sp19 _ _ fp11
    replace fp12 := sp19 _ _ fp12
    replace fp13 := sp19 _ _ fp13
    replace fp14 := sp19 _ _ fp14
    replace fp15 := sp19 _ _ fp15
    replace fpc := sp19 _ _ fpc
    replace fp17 := sp19 _ _ fp17
    replace fp18 := sp19 _ _ fp18
    replace hP := hP.same sp19
    replace hb := hb.trans (But.of sp19)
    clear sp19
    generalize upd G18 p19 (.tup [.str (S []), .str (S [110])]) = G19 at *
    walk_at "r"
    refine ⟨by show 2 ≤ sizeLine; decide, fun p20 hp20 => ?_⟩
    have fp20 : (upd G19 p20 (.tup [.str (S [121, 101, 115]), .ref p19])) p20 = some (.tup [.str (S [121, 101, 115]), .ref p19]) := upd_same
    have sp20 := same_new hp20 (o := .tup [.str (S [121, 101, 115]), .ref p19])
    have np20 : p20 ≠ a := hP.fresh hp20
    replace fp1 := sp20 _ _ fp1
    replace fp2 := sp20 _ _ fp2
    replace fp3 := sp20 _ _ fp3
    replace fp4 := sp20 _ _ fp4
    replace fp5 := sp20 _ _ fp5
    replace fp6 := sp20 _ _ fp6
    replace fp7 := sp20 _ _ fp7
    replace fp8 := sp20 _ _ fp8
    replace fp9 := sp20 _ _ fp9
    replace fp10 := sp20 _ _ fp10
    replace fp11 := sp20 _ _ fp11
    replace fp12 := sp20 _ _ fp12
    replace fp13 := sp20 _ _ fp13
    replace fp14 := sp20 _ _ fp14
    replace fp15 := sp20 _ _ fp15
    replace fpc := sp20 _ _ fpc
    replace fp17 := sp20 _ _ fp17
    replace fp18 := sp20 _ _ fp18
    replace fp19 := sp20 _ _ fp19
    replace hP := hP.same sp20
    replace hb := hb.trans (But.of sp20)
    clear sp20
    generalize upd G19 p20 (.tup [.str (S [121, 101, 115]), .ref p19]) = G20 at *
    walk_at "r"
    refine ⟨by show 0 ≤ sizeLine; decide, fun p21 hp21 => ?_⟩
    have fp21 : (upd G20 p21 (.tup [])) p21 = some (.tup []) := upd_same
    have sp21 := same_new hp21 (o := .tup [])
    have np21 : p21 ≠ a := hP.fresh hp21
    replace fp1 := sp21 _ _ fp1
    replace fp2 := sp21 _ _ fp2
    replace fp3 := sp21 _ _ fp3
    replace fp4 := sp21 _ _ fp4
    replace fp5 := sp21 _ _ fp5
    replace fp6 := sp21 _ _ fp6
    replace fp7 := sp21 _ _ fp7
    replace fp8 := sp21 _ _ fp8
    replace fp9 := sp21 _ _ fp9
    replace fp10 := sp21 _ _ fp10
    replace fp11 := sp21 _ _ fp11
    replace fp12 := sp21 _ _ fp12
    replace fp13 := sp21 _ _ fp13
    replace fp14 := sp21 _ _ fp14
    replace fp15 := sp21 _ _ fp15
    replace fpc := sp21 _ _ fpc
    replace fp17 := sp21 _ _ fp17
    replace fp18 := sp21 _ _ fp18
    replace fp19 := sp21 _ _ fp19
    replace fp20 := sp21 _ _ fp20
    replace hP := hP.same sp21
    replace hb := hb.trans (But.of sp21)
    clear sp21
    generalize upd G20 p21 (.tup []) = G21 at *
    walk_at "r"
    refine ⟨by show 2 ≤ sizeLine; decide, fun p22 hp22 => ?_⟩
    have fp22 : (upd G21 p22 (.tup [.str (S [110, 111]), .ref p21])) p22 = some (.tup [.str (S [110, 111]), .ref p21]) := upd_same
    have sp22 := same_new hp22 (o := .tup [.str (S [110, 111]), .ref p21])
    have np22 : p22 ≠ a := hP.fresh hp22
    replace fp1 := sp22 _ _ fp1
    replace fp2 := sp22 _ _ fp2
    replace fp3 := sp22 _ _ fp3
    replace fp4 := sp22 _ _ fp4
    replace fp5 := sp22 _ _ fp5
    replace fp6 := sp22 _ _ fp6
    replace fp7 := sp22 _ _ fp7
    replace fp8 := sp22 _ _ fp8
    replace fp9 := sp22 _ _ fp9
    replace fp10 := sp22 _ _ fp10
    replace fp11 := sp22 _ _ fp11
    replace fp12 := sp22 _ _ fp12
    replace fp13 := sp22 _ _ fp13
    replace fp14 := sp22 _ _ fp14
    replace fp15 := sp22 _ _ fp15
    replace fpc := sp22 _ _ fpc
    replace fp17 := sp22 _ _ fp17
    replace fp18 := sp22 _ _ fp18
    replace fp19 := sp22 _ _ fp19
    replace fp20 := sp22 _ _ fp20
    replace fp21 := sp22 _ _ fp21
    replace hP := hP.same sp22
    replace hb := hb.trans (But.of sp22)
    clear sp22
    generalize upd G21 p22 (.tup [.str (S [110, 111]), .ref p21]) = G22 at *
    walk_at "r"
    refine ⟨by show 2 ≤ sizeLine; decide, fun p23 hp23 => ?_⟩
    have fp23 : (upd G22 p23 (.tup [.int 2, .int 4])) p23 = some (.tup [.int 2, .int 4]) := upd_same
    have sp23 := same_new hp23 (o := .tup [.int 2, .int 4])
    have np23 : p23 ≠ a := hP.fresh hp23
    replace fp1 := sp23 _ _ fp1
    replace fp2 := sp23 _ _ fp2
    replace fp3 := sp23 _ _ fp3
    replace fp4 := sp23 _ _ fp4
    replace fp5 := sp23 _ _ fp5
    replace fp6 := sp23 _ _ fp6
    replace fp7 := sp23 _ _ fp7
    replace fp8 := sp23 _ _ fp8
    replace fp9 := sp23 _ _ fp9
    replace fp10 := sp23 _ _ fp10
    replace fp11 := sp23 _ _ fp11
    replace fp12 := sp23 _ _ fp12
    replace fp13 := sp23 _ _ fp13
    replace fp14 := sp23 _ _ fp14
    replace fp15 := sp23 _ _ fp15
    replace fpc := sp23 _ _ fpc
    replace fp17 := sp23 _ _ fp17
    replace fp18 := sp23 _ _ fp18
    replace fp19 := sp23 _ _ fp19
    replace fp20 := sp23 _ _ fp20
    replace fp21 := sp23 _ _ fp21
    replace fp22 := sp23 _ _ fp22
    replace hP := hP.same sp23
    replace hb := hb.trans (But.of sp23)
    clear sp23
    generalize upd G22 p23 (.tup [.int 2, .int 4]) = G23 at *
    walk_at "r"
    refine ⟨by show 2 ≤ sizeLine; decide, fun p24 hp24 => ?_⟩
    have fp24 : (upd G23 p24 (.tup [.str (S [78]), .str (S [110])])) p24 = some (.tup [.str (S [78]), .str (S [110])]) := upd_same
    have sp24 := same_new hp24 (o := .tup [.str (S [78]), .str (S [110])])
    have np24 : p24 ≠ a := hP.fresh hp24
    replace fp1 := sp24 _ _ fp1
    replace fp2 := sp24 _ _ fp2
    replace fp3 := sp24 _ _ fp3
    replace fp4 := sp24 _ _ fp4
    replace fp5 := sp24 _ _ fp5
    replace fp6 := sp24 _ _ fp6
    replace fp7 := sp24 _ _ fp7
    replace fp8 := sp24 _ _ fp8
    replace fp9 := sp24 _ _ fp9
    replace fp10 := sp24 _ _ fp10
    replace fp11 := sp24 _ _ fp11
    replace fp12 := sp24 _ _ fp12
    replace fp13 := sp24 _ _ fp13
    replace fp14 := sp24 _ _ fp14
    replace fp15 := sp24 _ _ fp15
    replace fpc := sp24 _ _ fpc
    replace fp17 := sp24 _ _ fp17
    replace fp18 := sp24 _ _ fp18
    replace fp19 := sp24 _ _ fp19
    replace fp20 := sp24 _ _ fp20
    replace fp21 := sp24 _ _ fp21
    replace fp22 := sp24 _ _ fp22
    replace fp23 := sp24 _ _ fp23
    replace hP := hP.same sp24
    replace hb := hb.trans (But.of sp24)
    clear sp24
    generalize upd G23 p24 (.tup [.str (S [78]), .str (S [110])]) = G24 at *
    walk_at "r"
    refine ⟨by show 2 ≤ sizeLine; decide, fun p25 hp25 => ?_⟩
    have fp25 : (upd G24 p25 (.tup [.int 1, .int 1])) p25 = some (.tup [.int 1, .int 1]) := upd_same
    have sp25 := same_new hp25 (o := .tup [.int 1, .int 1])
    have np25 : p25 ≠ a := hP.fresh hp25
    replace fp1 := sp25 _ _ fp1
    replace fp2 := sp25 _ _ fp2
    replace fp3 := sp25 _ _ fp3
    replace fp4 := sp25 _ _ fp4
    replace fp5 := sp25 _ _ fp5
    replace fp6 := sp25 _ _ fp6
    replace fp7 := sp25 _ _ fp7
    replace fp8 := sp25 _ _ fp8
    replace fp9 := sp25 _ _ fp9
    replace fp10 := sp25 _ _ fp10
    replace fp11 := sp25 _ _ fp11
    replace fp12 := sp25 _ _ fp12
    replace fp13 := sp25 _ _ fp13
    replace fp14 := sp25 _ _ fp14
    replace fp15 := sp25 _ _ fp15
    replace fpc := sp25 _ _ fpc
    replace fp17 := sp25 _ _ fp17
    replace fp18 := sp25 _ _ fp18
    replace fp19 := sp25 _ _ fp19
    replace fp20 := sp25 _ _ fp20
    replace fp21 := sp25 _ _ fp21
    replace fp22 := sp25 _ _ fp22
    replace fp23 := sp25 _ _ fp23
    replace fp24 := sp25 _ _ fp24
    replace hP := hP.same sp25
    replace hb := hb.trans (But.of sp25)
    clear sp25
    generalize upd G24 p25 (.tup [.int 1, .int 1]) = G25 at *
    walk_at "r"
    refine ⟨by show 1 ≤ sizeLine; decide, fun p26 hp26 => ?_⟩
    have fp26 : (upd G25 p26 (.tup [.str (S [102, 105, 114, 115, 116])])) p26 = some (.tup [.str (S [102, 105, 114, 115, 116])]) := upd_same
    have sp26 := same_new hp26 (o := .tup [.str (S [102, 105, 114, 115, 116])])
    have np26 : p26 ≠ a := hP.fresh hp26
    replace fp1 := sp26 _ _ fp1
    replace fp2 := sp26 _ _ fp2
    replace fp3 := sp26 _ _ fp3
    replace fp4 := sp26 _ _ fp4
    replace fp5 := sp26 _ _ fp5
    replace fp6 := sp26 _ _ fp6
    replace fp7 := sp26 _ _ fp7
    replace fp8 := sp26 _ _ fp8
    replace fp9 := sp26 _ _ fp9
    replace fp10 := sp26 _ _ fp10
    replace fp11 := sp26 _ _ fp11
    replace fp12 := sp26 _ _ fp12
    replace fp13 := sp26 _ _ fp13
    replace fp14 := sp26 _ _ fp14
    replace fp15 := sp26 _ _ fp15
    replace fpc := sp26 _ _ fpc
    replace fp17 := sp26 _ _ fp17
    replace fp18 := sp26 _ _ fp18
    replace fp19 := sp26 _ _ fp19
    replace fp20 := sp26 _ _ fp20
    replace fp21 := sp26 _ _ fp21
    replace fp22 := sp26 _ _ fp22
    replace fp23 := sp26 _ _ fp23
    replace fp24 := sp26 _ _ fp24
    replace fp25 := sp26 _ _ fp25
    replace hP := hP.same sp26
    replace hb := hb.trans (But.of sp26)
    clear sp26
    generalize upd G25 p26 (.tup [.str (S [102, 105, 114, 115, 116])]) = G26 at *
    walk_at "r"
    refine ⟨by show 8 ≤ sizeLine; decide, fun p27 hp27 => ?_⟩
    have fp27 : (upd G26 p27 (.lst [.ref p18, .ref p20, .ref p22, .ref p23, .ref p24, .ref p25, .ref p26, .str (S [70])])) p27 = some (.lst [.ref p18, .ref p20, .ref p22, .ref p23, .ref p24, .ref p25, .ref p26, .str (S [70])]) := upd_same
    have sp27 := same_new hp27 (o := .lst [.ref p18, .ref p20, .ref p22, .ref p23, .ref p24, .ref p25, .ref p26, .str (S [70])])
    have np27 : p27 ≠ a := hP.fresh hp27
    replace fp1 := sp27 _ _ fp1
    replace fp2 := sp27 _ _ fp2
    replace fp3 := sp27 _ _ fp3
    replace fp4 := sp27 _ _ fp4
    replace fp5 := sp27 _ _ fp5
    replace fp6 := sp27 _ _ fp6
    replace fp7 := sp27 _ _ fp7
    replace fp8 := sp27 _ _ fp8
    replace fp9 := sp27 _ _ fp9
    replace fp10 := sp27 _ _ fp10
    replace fp11 := sp27 _ _ fp11
    replace fp12 := sp27 _ _ fp12
    replace fp13 := sp27 _ _ fp13
    replace fp14 := sp27 _ _ fp14
    replace fp15 := sp27 _ _ fp15
    replace fpc := sp27 _ _ fpc
    replace fp17 := sp27 _ _ fp17
    replace fp18 := sp27 _ _ fp18
    replace fp19 := sp27 _ _ fp19
    replace fp20 := sp27 _ _ fp20
    replace fp21 := sp27 _ _ fp21
    replace fp22 := sp27 _ _ fp22
    replace fp23 := sp27 _ _ fp23
    replace fp24 := sp27 _ _ fp24
    replace fp25 := sp27 _ _ fp25
    replace fp26 := sp27 _ _ fp26
    replace hP := hP.same sp27
    replace hb := hb.trans (But.of sp27)
    clear sp27
    generalize upd G26 p27 (.lst [.ref p18, .ref p20, .ref p22, .ref p23, .ref p24, .ref p25, .ref p26, .str (S [70])]) = G27 at *
    walk_at "r"
    refine ⟨pc, p27, _, _, rfl, rfl, fpc, fp27, by show 27 + 8 ≤ sizeLine; decide, ?_⟩
    walk_at "r"
    refine ⟨a, pc, _, c, rfl, hP.ne npc, by omega, SqL.of upd_same, npc, by show 0 < 35; decide, by show 35 ≤ 1000000; decide, fun Hz x bz Pz hx => ?_⟩
    have bb := (hb.mut (o := .lst ([.non, .bl true, .bl false, .int 0, .int 1, .int (-1), .int 7, .int 100000000, .str (S []), .str (S [97]), .str (S [110]), .str (S [110, 102, 115]), .str (S [108, 97, 119]), .str (S [110, 102, 120]), .ref p1, .ref p2, .ref p3, .ref p4, .ref p6, .ref p7, .ref p8, .ref p9, .ref p10, .ref p11, .ref p12, .ref p13, .ref p14] ++ [.ref p18, .ref p20, .ref p22, .ref p23, .ref p24, .ref p25, .ref p26, .str (S [70])])) zpc).trans bz
    simp only [List.cons_append, List.nil_append, List.mem_cons, List.not_mem_nil, or_false] at hx
    have gp1 := bz _ _ np1 ((upd_ne (ne_of fp1 fpc (fun z => by cases z))).trans fp1)
    have gp10 := bz _ _ np10 ((upd_ne (ne_of fp10 fpc (fun z => by cases z))).trans fp10)
    have gp11 := bz _ _ np11 ((upd_ne (ne_of fp11 fpc (fun z => by cases z))).trans fp11)
    have gp12 := bz _ _ np12 ((upd_ne (ne_of fp12 fpc (fun z => by cases z))).trans fp12)
    have gp13 := bz _ _ np13 ((upd_ne (ne_of fp13 fpc (fun z => by cases z))).trans fp13)
    have gp14 := bz _ _ np14 ((upd_ne (ne_of fp14 fpc (fun z => by cases z))).trans fp14)
    have gp17 := bz _ _ np17 ((upd_ne (ne_of fp17 fpc (fun z => by cases z))).trans fp17)
    have gp18 := bz _ _ np18 ((upd_ne (ne_of fp18 fpc (fun z => by cases z))).trans fp18)
    have gp19 := bz _ _ np19 ((upd_ne (ne_of fp19 fpc (fun z => by cases z))).trans fp19)
    have gp2 := bz _ _ np2 ((upd_ne (ne_of fp2 fpc (fun z => by cases z))).trans fp2)
    have gp20 := bz _ _ np20 ((upd_ne (ne_of fp20 fpc (fun z => by cases z))).trans fp20)
    have gp21 := bz _ _ np21 ((upd_ne (ne_of fp21 fpc (fun z => by cases z))).trans fp21)
    have gp22 := bz _ _ np22 ((upd_ne (ne_of fp22 fpc (fun z => by cases z))).trans fp22)
    have gp23 := bz _ _ np23 ((upd_ne (ne_of fp23 fpc (fun z => by cases z))).trans fp23)
    have gp24 := bz _ _ np24 ((upd_ne (ne_of fp24 fpc (fun z => by cases z))).trans fp24)
    have gp25 := bz _ _ np25 ((upd_ne (ne_of fp25 fpc (fun z => by cases z))).trans fp25)
    have gp26 := bz _ _ np26 ((upd_ne (ne_of fp26 fpc (fun z => by cases z))).trans fp26)
    have gp3 := bz _ _ np3 ((upd_ne (ne_of fp3 fpc (fun z => by cases z))).trans fp3)
    have gp4 := bz _ _ np4 ((upd_ne (ne_of fp4 fpc (fun z => by cases z))).trans fp4)
    have gp6 := bz _ _ np6 ((upd_ne (ne_of fp6 fpc (fun z => by cases z))).trans fp6)
    have gp7 := bz _ _ np7 ((upd_ne (ne_of fp7 fpc (fun z => by cases z))).trans fp7)
    have gp8 := bz _ _ np8 ((upd_ne (ne_of fp8 fpc (fun z => by cases z))).trans fp8)
    have gp9 := bz _ _ np9 ((upd_ne (ne_of fp9 fpc (fun z => by cases z))).trans fp9)
    rcases hx with rfl | rfl | rfl | rfl | rfl | rfl | rfl | rfl | rfl | rfl | rfl | rfl | rfl | rfl | rfl | rfl | rfl | rfl | rfl | rfl | rfl | rfl | rfl | rfl | rfl | rfl | rfl | rfl | rfl | rfl | rfl | rfl | rfl | rfl | rfl
    · exact q _ _ (.none) bb Pz ⟨dat_non, by decide +kernel⟩
    · exact q _ _ (.bool true) bb Pz ⟨dat_bl, by decide +kernel⟩
    · exact q _ _ (.bool false) bb Pz ⟨dat_bl, by decide +kernel⟩
    · exact q _ _ (.int 0) bb Pz ⟨(dat_int (by decide)), by decide +kernel⟩
    · exact q _ _ (.int 1) bb Pz ⟨(dat_int (by decide)), by decide +kernel⟩
    · exact q _ _ (.int (-1)) bb Pz ⟨(dat_int (by decide)), by decide +kernel⟩
    · exact q _ _ (.int 7) bb Pz ⟨(dat_int (by decide)), by decide +kernel⟩
    · exact q _ _ (.int 100000000) bb Pz ⟨(dat_int (by decide)), by decide +kernel⟩
    · exact q _ _ (.str (S [])) bb Pz ⟨(dat_S (by decide)), by decide +kernel⟩
    · exact q _ _ (.str (S [97])) bb Pz ⟨(dat_S (by decide)), by decide +kernel⟩
    · exact q _ _ (.str (S [110])) bb Pz ⟨(dat_S (by decide)), by decide +kernel⟩
    · exact q _ _ (.str (S [110, 102, 115])) bb Pz ⟨(dat_S (by decide)), by decide +kernel⟩
    · exact q _ _ (.str (S [108, 97, 119])) bb Pz ⟨(dat_S (by decide)), by decide +kernel⟩
    · exact q _ _ (.str (S [110, 102, 120])) bb Pz ⟨(dat_S (by decide)), by decide +kernel⟩
    · exact q _ _ (.tuple []) bb Pz ⟨(dat_tup (SqT.of gp1) datL_nil), by decide +kernel⟩
    · exact q _ _ (.list []) bb Pz ⟨(dat_lst np2 (SqL.of gp2) datL_nil), by decide +kernel⟩
    · exact q _ _ (.dict []) bb Pz ⟨(dat_dic gp3 datK_nil), by decide +kernel⟩
    · exact q _ _ (.tuple [.int 0]) bb Pz ⟨(dat_tup (SqT.of gp4) (datL_cons (dat_int (by decide)) datL_nil)), by decide +kernel⟩
    · exact q _ _ (.tuple [.str (S []), .str (S [110])]) bb Pz ⟨(dat_tup (SqT.of gp6) (datL_cons (dat_S (by decide)) (datL_cons (dat_S (by decide)) datL_nil))), by decide +kernel⟩
    · exact q _ _ (.tuple [.str (S [110]), .str (S [])]) bb Pz ⟨(dat_tup (SqT.of gp7) (datL_cons (dat_S (by decide)) (datL_cons (dat_S (by decide)) datL_nil))), by decide +kernel⟩
    · exact q _ _ (.tuple [.str (S [110, 102]), .str (S [115])]) bb Pz ⟨(dat_tup (SqT.of gp8) (datL_cons (dat_S (by decide)) (datL_cons (dat_S (by decide)) datL_nil))), by decide +kernel⟩
    · exact q _ _ (.list [.str (S []), .str (S [110])]) bb Pz ⟨(dat_lst np9 (SqL.of gp9) (datL_cons (dat_S (by decide)) (datL_cons (dat_S (by decide)) datL_nil))), by decide +kernel⟩
    · exact q _ _ (.tuple [.str (S []), .str (S [110]), .str (S [102])]) bb Pz ⟨(dat_tup (SqT.of gp10) (datL_cons (dat_S (by decide)) (datL_cons (dat_S (by decide)) (datL_cons (dat_S (by decide)) datL_nil)))), by decide +kernel⟩
    · exact q _ _ (.tuple [.none]) bb Pz ⟨(dat_tup (SqT.of gp11) (datL_cons dat_non datL_nil)), by decide +kernel⟩
    · exact q _ _ (.dict [(.str (S [97]), .int 1)]) bb Pz ⟨(dat_dic gp12 (datK_cons (by decide) (dat_int (by decide)) datK_nil)), by decide +kernel⟩
    · exact q _ _ (.tuple [.bool true]) bb Pz ⟨(dat_tup (SqT.of gp13) (datL_cons dat_bl datL_nil)), by decide +kernel⟩
    · exact q _ _ (.tuple [.int 0, .int 1]) bb Pz ⟨(dat_tup (SqT.of gp14) (datL_cons (dat_int (by decide)) (datL_cons (dat_int (by decide)) datL_nil))), by decide +kernel⟩
    · exact q _ _ (.tuple [.tuple [.str (S []), .str (S [110])]]) bb Pz ⟨(dat_tup (SqT.of gp18) (datL_cons (dat_tup (SqT.of gp17) (datL_cons (dat_S (by decide)) (datL_cons (dat_S (by decide)) datL_nil))) datL_nil)), by decide +kernel⟩
    · exact q _ _ (.tuple [.str (S [121, 101, 115]), .tuple [.str (S []), .str (S [110])]]) bb Pz ⟨(dat_tup (SqT.of gp20) (datL_cons (dat_S (by decide)) (datL_cons (dat_tup (SqT.of gp19) (datL_cons (dat_S (by decide)) (datL_cons (dat_S (by decide)) datL_nil))) datL_nil))), by decide +kernel⟩
    · exact q _ _ (.tuple [.str (S [110, 111]), .tuple []]) bb Pz ⟨(dat_tup (SqT.of gp22) (datL_cons (dat_S (by decide)) (datL_cons (dat_tup (SqT.of gp21) datL_nil) datL_nil))), by decide +kernel⟩
    · exact q _ _ (.tuple [.int 2, .int 4]) bb Pz ⟨(dat_tup (SqT.of gp23) (datL_cons (dat_int (by decide)) (datL_cons (dat_int (by decide)) datL_nil))), by decide +kernel⟩
    · exact q _ _ (.tuple [.str (S [78]), .str (S [110])]) bb Pz ⟨(dat_tup (SqT.of gp24) (datL_cons (dat_S (by decide)) (datL_cons (dat_S (by decide)) datL_nil))), by decide +kernel⟩
    · exact q _ _ (.tuple [.int 1, .int 1]) bb Pz ⟨(dat_tup (SqT.of gp25) (datL_cons (dat_int (by decide)) (datL_cons (dat_int (by decide)) datL_nil))), by decide +kernel⟩
    · exact q _ _ (.tuple [.str (S [102, 105, 114, 115, 116])]) bb Pz ⟨(dat_tup (SqT.of gp26) (datL_cons (dat_S (by decide)) datL_nil)), by decide +kernel⟩
    · exact q _ _ (.str (S [70])) bb Pz ⟨(dat_S (by decide)), by decide +kernel⟩

def sp_Llaw_drawn (K : PySem.W.Frag) : Sp := fun vs H Q _ => ∃ (a : Addr) (c : Int) (m : Nat), vs = [.ref a, .int m] ∧ 1 ≤ m ∧ m ≤ 6 ∧ PotAt H a c ∧ c ≤ 800000 ∧ ∀ H' p rs, But a H H' → PotAt H' a (c + 30) → OwnH H' p rs → Law3 rs → rs.length ≤ m → Q (.ref p) H'
theorem ok_Llaw_drawn (T : Txt K mg) : Ok P w K mg base CX0 (3) "_law_law_drawn" s_Llaw_drawn ["pot", "most"] (sp_Llaw_drawn K) := by
  obtain ⟨fd, D⟩ := T.d_Llaw_drawn
  refine ⟨⟨_, fd, T.g__law_law_drawn, D, D.bindsN (fun _ _ _ _ _ _ us hl => match us, hl with | [_, _], _ => rfl), ?_⟩⟩
  refine D.ok sc_Llaw_drawn (fun vs H Q E h => ?_) (fun cdv A outer s H vs Q E hr h => ?_)
  · obtain ⟨a, c, m, rfl, m1, m6, hP, hc, q⟩ := h
    rfl
  · obtain ⟨a, c, m, rfl, m1, m6, hP, hc, q⟩ := h
    have F_Ltake := ok_Ltake (P := P) (w := w) (K := K) (mg := mg) (base := base) T
    have F_Lof := ok_Lof (P := P) (w := w) (K := K) (mg := mg) (base := base) T
    refine ⟨_, PSs.nox (pss_cons (ps_set (i := 2) sc_Llaw_drawn.nd rfl (by first | exact Or.inl rfl | exact Or.inr rfl) (pe_slice sl_list (pe_lst (pa_cons (pe_strS [97] (by rfl)) (pa_cons (pe_strS [98] (by rfl)) (pa_cons (pe_strS [99] (by rfl)) (pa_cons (pe_strS [100] (by rfl)) (pa_cons (pe_strS [101] (by rfl)) (pa_cons (pe_strS [102] (by rfl)) pa_nil))))))) po_none (po_some (pe_op op_add pe_int (pe_cl F_Ltake hr (by rfl) pass0 (pa_cons (pv 0) (pa_cons (pv 1) pa_nil)))))))
      (pss_cons (ps_set (i := 3) sc_Llaw_drawn.nd rfl (by first | exact Or.inl rfl | exact Or.inr rfl) (pe_lst pa_nil))
      (pss_cons (ps_for PassesOwn.never rfl (pi_list (pv 2)) (pg_name (i := 4) sc_Llaw_drawn.nd rfl (by first | exact Or.inl rfl | exact Or.inr rfl))
        (pss_cons (ps_set (i := 5) sc_Llaw_drawn.nd rfl (by first | exact Or.inl rfl | exact Or.inr rfl) (pe_callTy (call_dictP rfl) (by rfl) T.z_dict (by decide +kernel) (pa_cons (pe_lc (own := [("letter", 6)]) (g := gName 6) (tt := tYes) rfl sc_Llaw_drawn.nd (pi_str (pe_strS [110, 102, 115] (by rfl))) (blkOk_by (N := ["pot", "most", "names", "found", "name", "ways", "letter"]) (sc := defScope s_Llaw_drawn) (by decide +kernel)) (fun _ _ _ _ _ => (pg_name (i := 6) sc_Llaw_drawn.nd rfl (by first | exact Or.inl rfl | exact Or.inr rfl))) (fun _ _ _ _ _ => pts_nil) (fun _ _ _ _ _ => (pe_tup (pa_cons (pv 6) (pa_cons (pe_cl F_Lof hr (by rfl) pass0 (pa_cons (pv 0) (pa_cons (pv 2) pa_nil))) pa_nil))))) pa_nil)))
      (pss_one (ps_expr (pe_bm PySem.F.plainAttrs_list PySem.F.slot_list_append PySem.F.type_list_append mt_append (pv 3) (pa_cons (pe_tup (pa_cons (pv 4) (pa_cons (pe_cmpR op_eq (pe_cl F_Ltake hr (by rfl) pass0 (pa_cons (pv 0) (pa_cons pe_int pa_nil))) pe_int (nomark _)) (pa_cons (pv 5) pa_nil)))) pa_nil))))))
      (pss_one (ps_ret (pv 3)))))), ?_⟩
    walk_at "r"
    refine ⟨by show 6 ≤ sizeLine; decide, fun p hp => ?_⟩
    walk_at "r"
    have s1 := same_new hp (o := .lst [.str (S [97]), .str (S [98]), .str (S [99]), .str (S [100]), .str (S [101]), .str (S [102])])
    refine ⟨a, m, c, rfl, hP.same s1, by omega, by omega, by omega, fun H1 d b1 P1 d0 d6 => ?_⟩
    walk_at "r"
    obtain ⟨n, hn, n1, n6, ecut⟩ := nmL_cut d0 (by omega)
    have hp1 : H1 p = some _ := b1 p _ (hP.fresh hp) upd_same
    refine ⟨p, _, rfl, SqL.of hp1, fun p2 hp2 => ?_⟩
    rw [ecut]
    walk_at "r"
    refine ⟨Nat.zero_le _, fun F hF => ?_⟩
    walk_at "r"
    have fa : F ≠ a := (P1.new hp2).fresh hF
    have p2a : p2 ≠ a := P1.fresh hp2
    have F2 : F ≠ p2 := fun z => by subst z; rw [upd_same] at hF; cases hF
    have hF1 : H1 F = none := by rw [upd_ne F2] at hF; exact hF
    have hFH : H F = none := But.free (But.of s1) fa (b1.free fa hF1)
    have p2H : H p2 = none := But.free (But.of s1) p2a (b1.free p2a hp2)
    have B0 := (((But.of s1).trans b1).mut p2H (o := .lst ((nmL n).map fun l => V.str (S l)))).mut hFH (o := .lst [])
    have P2 := (P1.new hp2 (o := .lst ((nmL n).map fun l => V.str (S l)))).new hF (o := .lst [])
    have e2 : (upd (upd H1 p2 (.lst ((nmL n).map fun l => V.str (S l)))) F (.lst [])) p2 = some (.lst ((nmL n).map fun l => V.str (S l))) := by rw [upd_ne F2.symm]; exact upd_same
    have hln := nmL_len n6
    refine ⟨p2, rfl, ⟨_, SqL.of e2⟩, for_list (K := K) (a := p2) (xs := (nmL n).map fun l => V.str (S l)) (fun i σ H' => ∃ y z ts rs, σ = [some (.ref a), some (.int m), some (.ref p2), some (.ref F), y, z, none] ∧ PotAt H' a (c + 1 + 4 * i) ∧ Mk3 a p2 F ((nmL n).map fun l => V.str (S l)) rs ts H H' ∧ rs.map (·.nm) = (nmL n).take i ∧ ∀ r ∈ rs, ∀ c, (c = 110 ∨ c = 102 ∨ c = 115) → r.way c ∈ nmL n) ⟨_, _, [], [], rfl, P2.mono (by omega), ⟨B0, e2, upd_same, .nil⟩, rfl, fun r h => nomatch h⟩ (fun i σ H' _ h => by obtain ⟨_, _, _, _, _, _, m, _⟩ := h; exact SqL.of m.l) ?_ ?_⟩
    · rintro i x σ H' ex ⟨y, z, ts, rs, rfl, Pt, M, hnm, hw⟩
      rw [List.getElem?_map] at ex
      obtain ⟨l, el, rfl⟩ := Option.map_eq_some_iff.mp ex
      have hi : i < n := by have := (List.getElem?_eq_some_iff.mp el).1; omega
      walk_at "r"
      refine ⟨_, rfl, fun D hD => lc_S (l := [110, 102, 115]) (fun j X => PotAt X a (c + 1 + 4 * i + j) ∧ Mk3 a p2 F ((nmL n).map fun l => V.str (S l)) rs ts H X ∧ ∃ (ps : List Addr) (kvs : List (Key × V)), X D = some (.lst (ps.map V.ref)) ∧ Paired (fun p kv => X p = some (.tup [kV kv.1, kv.2])) ps kvs ∧ Paired (fun c kv => ∃ w : List Nat, w ∈ nmL n ∧ kv = (Sum.inr (S [c]), V.str (S w))) (([110, 102, 115] : List Nat).take j) kvs) ?_ ?_ ?_⟩
      · exact ⟨(Pt.new hD).mono (by omega), M.keepS (same_new hD), [], [], upd_same, .nil, .nil⟩
      · rintro j x X ej ⟨PX, MX, ps, kvs, hX, hps, hk⟩
        have Da : D ≠ a := Pt.fresh hD
        have hDH : H D = none := M.b.free Da hD
        have D2 : D ≠ p2 := fun z => by subst z; rw [M.l] at hD; cases hD
        have DF : D ≠ F := fun z => by subst z; rw [M.f] at hD; cases hD
        walk_at "r"
        refine ⟨rfl, ?_⟩
        walk_at "r"
        have hj : j < 3 := (List.getElem?_eq_some_iff.mp ej).1
        refine ⟨a, p2, _, _, rfl, PX, by omega, SqL.of MX.l, p2a, by rw [List.length_map]; omega, by rw [List.length_map]; omega, fun X2 v b2 P2 hv => ?_⟩
        obtain ⟨w2, mw, rfl⟩ := List.mem_map.mp hv
        walk_at "r"
        refine ⟨by show 2 ≤ sizeLine; decide, fun p3 hp3 => ?_⟩
        have hX2 := b2 _ _ Da hX
        have s3 := same_new hp3 (o := .tup [.str (S [x]), .str (S w2)])
        have n3 : D ≠ p3 := (fresh_ne hp3 hX2).symm
        refine ⟨_, s3 _ _ hX2, ?_, ((P2.new hp3).ne Da).mono (by omega), ((MX.keepA p2a fa PX b2).keepS s3).keepD hDH D2 DF (s3 _ _ hX2), ps ++ [p3], kvs ++ [(.inr (S [x]), .str (S w2))], by rw [upd_same]; simp, ?_, ?_⟩
        · have h1 := hps.length
          have h2 := hk.length
          rw [List.length_take] at h2
          rw [List.length_map]
          exact lt_line (by omega)
        · refine (hps.mono fun b kv h => ?_).snoc (by rw [upd_ne n3.symm]; exact upd_same)
          have nb : b ≠ D := fun z => by subst z; rw [hX] at h; cases h
          have na : b ≠ a := fun z => by
            subst z
            obtain ⟨own, sd, k, hA, _⟩ := PX
            rw [hA] at h
            cases h
          rw [upd_ne nb]
          exact s3 _ _ (b2 _ _ na h)
        · rw [take_snoc' ej]
          exact hk.snoc ⟨w2, mw, rfl⟩
      · rintro X ⟨PX, MX, ps, kvs, hX, hps, hk⟩
        replace PX : PotAt X a (c + 1 + 4 * (i : Int) + 3) := PX
        obtain ⟨f, hf, rfl, hmg⟩ := kvs_three hk
        walk_at "r"
        have Da : D ≠ a := Pt.fresh hD
        have D2 : D ≠ p2 := fun z => by subst z; rw [M.l] at hD; cases hD
        have DF : D ≠ F := fun z => by subst z; rw [M.f] at hD; cases hD
        refine ⟨D, ps, _, rfl, SqL.of hX, hps.mono fun _ _ h => SqT.of h, fun p4 hp4 => ?_⟩
        rw [hmg]
        have s4 := same_new hp4 (o := .dK (wK f))
        have M4 := MX.keepS s4
        have P4 := PX.new hp4 (o := .dK (wK f))
        have w4 : (upd X p4 (.dK (wK f))) p4 = some (.dK (wK f)) := upd_same
        have n4 : p4 ≠ a := PX.fresh hp4
        generalize upd X p4 (.dK (wK f)) = X4 at s4 M4 P4 w4 ⊢
        walk_at "r"
        refine ⟨_, rfl, .inl ⟨rfl, _, SqL.of M4.f⟩, ?_⟩
        walk_at "r"
        refine ⟨a, 2, _, rfl, P4, by omega, by decide, by decide, fun X5 v b5 P5 v0 v2 => ?_⟩
        walk_at "r"
        have M5 := M4.keepA p2a fa P4 b5
        have w5 := b5 _ _ n4 w4
        refine ⟨by show 3 ≤ sizeLine; decide, fun p6 hp6 => ?_⟩
        walk_at "r"
        have s6 := same_new hp6 (o := .tup [.str (S l), .bl (decide (V.int v = V.int 0)), .ref p4])
        have M6 := M5.keepS s6
        have P6 := P5.new hp6 (o := .tup [.str (S l), .bl (decide (V.int v = V.int 0)), .ref p4])
        have w6 := s6 _ _ w5
        have t6 : (upd X5 p6 (.tup [.str (S l), .bl (decide (V.int v = V.int 0)), .ref p4])) p6 = some (.tup [.str (S l), .bl (decide (V.int v = V.int 0)), .ref p4]) := upd_same
        generalize upd X5 p6 (.tup [.str (S l), .bl (decide (V.int v = V.int 0)), .ref p4]) = X6 at s6 M6 P6 w6 t6 ⊢
        have lt : ts.length = i := by rw [← M.r.length, ← List.length_map (f := (·.nm)), hnm, List.length_take, hln]; omega
        refine ⟨F, _, _, rfl, rfl, M6.f, by rw [List.length_map, lt]; exact lt_line (by omega), ?_⟩
        walk_at "r"
        refine ⟨_, _, ts ++ [p6], rs ++ [⟨l, decide (V.int v = V.int 0), f⟩], rfl, (P6.ne fa).mono (by simp; omega), ⟨M6.b.mut hFH, by rw [upd_ne F2.symm]; exact M6.l, by rw [upd_same, List.map_append]; rfl, (M6.r.mono fun _ _ h => h.lst M6.f).snoc (RowH.lst M6.f ⟨p4, t6, w6⟩)⟩, by rw [List.map_append, hnm, take_snoc' el]; rfl, fun r hr c hc => ?_⟩
        rcases List.mem_append.mp hr with h | h
        · exact hw r h c hc
        · rw [List.mem_singleton] at h
          subst h
          exact hf c hc
    · rintro σ H' ⟨y, z, ts, rs, rfl, Pt, M, hnm, hw⟩
      walk_at "r"
      rw [List.length_map, hln] at Pt hnm
      have hl : rs.length = n := by rw [← List.length_map (f := (·.nm)), hnm, List.length_take, hln]; omega
      rw [List.take_of_length_le (by omega)] at hnm
      exact q _ _ _ M.b (Pt.mono (by omega)) ⟨ts, M.f, M.r⟩ ⟨fun z => by subst z; simp at hl; omega, by omega, by rw [hl]; exact hnm, fun r hr c hc => by rw [hnm]; exact hw r hr c hc⟩ (by omega)

def sp_Lgreat (K : PySem.W.Frag) : Sp := fun vs H Q _ => ∃ (n : Nat), vs = [.int n] ∧ 1 ≤ n ∧ n ≤ 100 ∧ ∀ H' m, Same H H' → m.length ≤ 9000 → (∀ c ∈ m, c < 128) → Q (.str (S m)) H'
theorem ok_Lgreat (T : Txt K mg) : Ok P w K mg base CX0 (2) "_law_great" s_Lgreat ["many"] (sp_Lgreat K) := by
  obtain ⟨fd, D⟩ := T.d_Lgreat
  refine ⟨⟨_, fd, T.g__law_great, D, D.bindsN (fun _ _ _ _ _ _ us hl => match us, hl with | [_], _ => rfl), ?_⟩⟩
  refine D.ok sc_Lgreat (fun vs H Q E h => ?_) (fun cdv A outer s H vs Q E hr h => ?_)
  · obtain ⟨n, rfl, n1, n2, q⟩ := h
    rfl
  · obtain ⟨n, rfl, n1, n2, q⟩ := h
    have F_Llaw_text := ok_Llaw_text (P := P) (w := w) (K := K) (mg := mg) (base := base) T
    refine ⟨_, PSs.nox (pss_cons (ps_set (i := 1) sc_Lgreat.nd rfl (by first | exact Or.inl rfl | exact Or.inr rfl) (pe_lc (own := [("at", 2)]) (g := gName 2) (tt := tYes) rfl sc_Lgreat.nd (pi_range1 (by rfl) T.z_range (pa_cons (pv 0) pa_nil)) (blkOk_by (N := ["many", "names", "at", "name"]) (sc := defScope s_Lgreat) (by decide +kernel)) (fun _ _ _ _ _ => (pg_name (i := 2) sc_Lgreat.nd rfl (by first | exact Or.inl rfl | exact Or.inr rfl))) (fun _ _ _ _ _ => pts_nil) (fun _ _ _ _ _ => (pe_op o_addS (pe_op op_mul_str (pe_strS [97] (by rfl)) (pe_op op_add pe_int (pe_op op_fdiv (pv 2) pe_int))) (pe_ix ix_str (pe_strS [97, 98, 99, 100, 101, 102, 103, 104, 105, 106, 107, 108, 109, 110, 111, 112, 113, 114, 115, 116, 117, 118, 119, 120, 121, 122] (by rfl)) (pe_op op_sub (pv 2) (pe_op op_mul (pe_op op_fdiv (pv 2) pe_int) pe_int)) (fun _ _ => rfl))))))
      (pss_one (ps_ret (pe_cl F_Llaw_text hr (by rfl) pass0 (pa_cons (pe_lc (own := [("at", 2), ("name", 3)]) (g := gTup K 2 (gCons (gName 2) (gCons (gName 3) gNil))) (tt := tYes) rfl sc_Lgreat.nd (pi_enum (by rfl) T.z_enumerate (pa_cons (pv 1) pa_nil)) (blkOk_by (N := ["many", "names", "at", "name"]) (sc := defScope s_Lgreat) (by decide +kernel)) (fun _ _ _ _ _ => (pg_tup rfl (pgs_cons (pg_name (i := 2) sc_Lgreat.nd rfl (by first | exact Or.inl rfl | exact Or.inr rfl)) (pgs_cons (pg_name (i := 3) sc_Lgreat.nd rfl (by first | exact Or.inl rfl | exact Or.inr rfl)) pgs_nil)))) (fun _ _ _ _ _ => pts_nil) (fun _ _ _ _ _ => (pe_tup (pa_cons (pv 3) (pa_cons (pe_cmpR op_eq (pv 2) pe_int (nomark _)) (pa_cons (pe_disp (pps_cons (pe_strS [110] (by rfl)) (pv 3) (pps_cons (pe_strS [102] (by rfl)) (pe_ix (show IxR _ (rIxL K) from ix_list) (pv 1) pe_int (fun _ _ => rfl)) (pps_cons (pe_strS [115] (by rfl)) (pe_ix (show IxR _ (rIxL K) from ix_list) (pv 1) (pe_un un_neg pe_int) (fun _ _ => rfl)) pps_nil))) (by rfl) (by rfl) (fun z => by cases z) (by decide)) pa_nil)))))) pa_nil))))), ?_⟩
    walk_at "r"
    refine ⟨_, rfl, by omega, by omega, fun D hD => ?_⟩
    refine lc_acc (n := n) (fun i G => Same H G) (fun _ v => ∃ l : List Nat, v = .str (S l) ∧ Sh l) (by omega) (same_new hD) (fun i G acc acc' e h3 => Same.mut e hD) (fun i G hi e => hi) (fun G e => Nat.le_refl _) ?_ ?_
    · rintro i v X Y acc hi e hacc ⟨rfl, rfl⟩ R hR
      walk_at "r"
      rw [show (0 : Int) + (i : Int) = (i : Int) by omega]
      refine ⟨rfl, ?_⟩
      walk_at "r"
      refine r_I ⟨by decide, by decide⟩ ?_
      walk_at "r"
      rw [show (1 : Int) + (i : Int) / 26 = ((1 + i / 26 : Nat) : Int) by omega]
      refine r_mulS (n := 1 + i / 26) (by simp; omega) (by omega) ?_
      walk_at "r"
      refine r_I ⟨by decide, by decide⟩ ?_
      walk_at "r"
      refine ⟨_, _, rfl, rfl, .inr (by decide), ?_⟩
      walk_at "r"
      rw [show (i : Int) - (i : Int) / 26 * 26 = ((i % 26 : Nat) : Int) by omega]
      obtain ⟨c, ec⟩ : ∃ c, ([97, 98, 99, 100, 101, 102, 103, 104, 105, 106, 107, 108, 109, 110, 111, 112, 113, 114, 115, 116, 117, 118, 119, 120, 121, 122] : List Nat)[i % 26]? = some c := ⟨_, List.getElem?_eq_getElem (by show i % 26 < 26; omega)⟩
      have hc : c < 128 := (by decide : ∀ x ∈ ([97, 98, 99, 100, 101, 102, 103, 104, 105, 106, 107, 108, 109, 110, 111, 112, 113, 114, 115, 116, 117, 118, 119, 120, 121, 122] : List Nat), x < 128) c (List.mem_of_getElem? ec)
      refine r_ixS (by decide) (atI_nat ec) ?_
      have hrl : ((List.replicate (1 + i / 26) [97]).flatten : List Nat).length = 1 + i / 26 := by simp
      refine r_addS (by rw [hrl]; simp; omega) ?_
      refine hR _ _ hacc ⟨_, rfl, by rw [List.length_append, hrl]; simp; omega, fun x hx => ?_⟩ e
      rcases List.mem_append.mp hx with h | h
      · exact rep_asc (by decide) x h
      · rw [List.mem_singleton.mp h]; exact hc
    · rintro X acc hl hv hacc e
      obtain ⟨nms, rfl, hnm⟩ := texts_of fun v hv' => by
        obtain ⟨k, hk⟩ := List.getElem?_of_mem hv'
        exact hv k v hk
      rw [List.length_map] at hl
      walk_at "r"
      obtain ⟨nm0, e0⟩ : ∃ l, nms[0]? = some l := ⟨_, List.getElem?_eq_getElem (by omega)⟩
      obtain ⟨ri, nml, el⟩ : ∃ r l, nms = r ++ [l] := ⟨_, _, (List.dropLast_concat_getLast (fun z => by rw [z] at hl; simp at hl; omega)).symm⟩
      have h0 := hnm _ (List.mem_of_getElem? e0)
      have hlst := hnm nml (by rw [el]; simp)
      have il : atI (nms.map fun l => V.str (S l)) (-1) = some (V.str (S nml)) := by rw [el, List.map_append]; exact atI_last _ _
      refine ⟨D, _, rfl, SqL.of hacc, fun D2 hD2 => lc_J (n := n) (fun i Y => Same X Y ∧ ∃ ts rs, Y D2 = some (.lst (ts.map V.ref)) ∧ ts.length = i ∧ Paired (RowH Y) rs ts ∧ (∀ r ∈ rs, Sh r.nm) ∧ ∀ r ∈ rs, ∀ c, (c = 110 ∨ c = 102 ∨ c = 115) → Sh (r.way c)) ⟨same_new hD2, [], [], upd_same, rfl, .nil, (fun _ h => nomatch h), fun _ h => nomatch h⟩ ?_ ?_ ?_ ?_⟩
      · rintro i Y hi ⟨sY, _⟩
        exact ⟨_, V.str (S nms[i]), SqL.of (sY _ _ hacc), by rw [List.getElem?_map, List.getElem?_eq_getElem (by omega)]; rfl⟩
      · rintro Y ⟨sY, _⟩
        exact ⟨_, SqL.of (sY _ _ hacc), by rw [List.length_map]; omega⟩
      · rintro i v Y Z hi ⟨sY, ts, rs, eY, lY, hp, g1, g2⟩ ⟨T2, x1, rfl, hT, rfl, f1⟩
        have ex := f1 _ (SqL.of (sY _ _ hacc))
        obtain ⟨nm, en⟩ : ∃ l, nms[i]? = some l := ⟨_, List.getElem?_eq_getElem (by omega)⟩
        rw [List.getElem?_map, en] at ex
        obtain rfl : V.str (S nm) = x1 := Option.some.inj ex
        have hn := hnm _ (List.mem_of_getElem? en)
        refine r_gTup (SqT.of upd_same) rfl ?_
        have s6 := same_new hT (o := .tup [.int i, .str (S nm)])
        replace sY := Same.trans sY s6
        replace eY := s6 _ _ eY
        replace hp := hp.mono fun _ _ h => h.same s6
        generalize upd Y T2 (.tup [.int i, .str (S nm)]) = Y at sY eY hp ⊢
        walk_at "r"
        refine ⟨rfl, ?_⟩
        walk_at "r"
        intro p1 hp1
        have u1 := same_new hp1 (o := .dK [])
        refine r_pcons ?_
        walk_at "r"
        refine r_ixL (SqL.of (u1 _ _ (sY _ _ hacc))) (words_at (j := 0) e0) ?_
        refine r_pcons ?_
        walk_at "r"
        refine r_ixL (SqL.of (u1 _ _ (sY _ _ hacc))) il ?_
        refine r_pnil ?_
        refine ⟨upd_same, [(.inr (S [110]), .str (S nm)), (.inr (S [102]), .str (S nm0)), (.inr (S [115]), .str (S nml))], rfl, by show 3 ≤ 15; decide, ?_⟩
        rw [upd_upd, show mergeK [] [((.inr (S [110]) : Key), V.str (S nm)), (.inr (S [102]), .str (S nm0)), (.inr (S [115]), .str (S nml))] = wK (grR nm0 nml i nm).way from rfl]
        have u2 := same_new hp1 (o := .dK (wK (grR nm0 nml i nm).way))
        have f2 : (upd Y p1 (.dK (wK (grR nm0 nml i nm).way))) p1 = some (.dK (wK (grR nm0 nml i nm).way)) := upd_same
        replace sY := Same.trans sY u2
        replace eY := u2 _ _ eY
        replace hp := hp.mono fun _ _ h => h.same u2
        generalize upd Y p1 (.dK (wK (grR nm0 nml i nm).way)) = Y at sY eY hp f2 ⊢
        walk_at "r"
        refine ⟨by show 3 ≤ sizeLine; decide, fun p2 hp2 => ?_⟩
        have u3 := same_new hp2 (o := .tup [.str (S nm), .bl (decide (V.int (i : Int) = V.int 3)), .ref p1])
        have f3 : (upd Y p2 (.tup [.str (S nm), .bl (decide (V.int (i : Int) = V.int 3)), .ref p1])) p2 = some (.tup [.str (S nm), .bl (decide (V.int (i : Int) = V.int 3)), .ref p1]) := upd_same
        replace sY := Same.trans sY u3
        replace eY := u3 _ _ eY
        replace hp := hp.mono fun _ _ h => h.same u3
        replace f2 := u3 _ _ f2
        generalize upd Y p2 (.tup [.str (S nm), .bl (decide (V.int (i : Int) = V.int 3)), .ref p1]) = Y at sY eY hp f2 f3 ⊢
        rw [show decide (V.int (i : Int) = V.int 3) = decide (i = 3) from decide_eq_decide.mpr ⟨fun h => by have := V.int.inj h; omega, fun h => by rw [h]; rfl⟩] at f3
        refine ⟨_, eY, by rw [List.length_map]; exact lt_line (by omega), Same.mut sY hD2, ts ++ [p2], rs ++ [grR nm0 nml i nm], by rw [upd_same, List.map_append]; rfl, by rw [List.length_append, lY]; rfl, ?_, fun r hr => ?_, fun r hr c hc => ?_⟩
        · exact (hp.mono fun _ _ h => h.lst eY).snoc (RowH.lst eY ⟨p1, f3, f2⟩)
        · rcases List.mem_append.mp hr with h | h
          · exact g1 r h
          · rw [List.mem_singleton.mp h]; exact hn
        · rcases List.mem_append.mp hr with h | h
          · exact g2 r h c hc
          · rw [List.mem_singleton.mp h]; exact grR_sh h0 hlst hn c
      · rintro Y ⟨sY, ts, rs, eY, lY, hp, g1, g2⟩
        walk_at "r"
        have hs : ShortRs rs := ⟨by rw [hp.length]; omega, g1, g2⟩
        refine ⟨D2, rs, rfl, OwnH.s ⟨ts, eY, hp⟩, hs, fun Z sZ => ?_⟩
        obtain ⟨m, em, lm, am⟩ := hs.text
        rw [em]
        exact q _ m (Same.trans (Same.trans e sY) sZ) (by have := hp.length; omega) am

def sp_Ltexts (K : PySem.W.Frag) : Sp := fun vs H Q _ => ∃ (a : Addr) (c : Int), vs = [.ref a] ∧ PotAt H a c ∧ c ≤ 1000 ∧ ∀ H' p vs, But a H H' → PotAt H' a (c + 60) → p ≠ a → H' p = some (.lst vs) → vs.length ≤ 30 → (∀ v ∈ vs, TxtV K a H' v) → Q (.ref p) H'
theorem ok_Ltexts (T : Txt K mg) : Ok P w K mg base CX0 (5) "_law_texts" s_Ltexts ["pot"] (sp_Ltexts K) := by
  obtain ⟨fd, D⟩ := T.d_Ltexts
  refine ⟨⟨_, fd, T.g__law_texts, D, D.bindsN (fun _ _ _ _ _ _ us hl => match us, hl with | [_], _ => rfl), ?_⟩⟩
  refine D.ok sc_Ltexts (fun vs H Q E h => ?_) (fun cdv A outer s H vs Q E hr h => ?_)
  · obtain ⟨a, c, rfl, hP, hc, q⟩ := h
    rfl
  · obtain ⟨a, c, rfl, hP, hc, q⟩ := h
    have F_Llaw_text := ok_Llaw_text (P := P) (w := w) (K := K) (mg := mg) (base := base) T
    have F_Llaw_drawn := ok_Llaw_drawn (P := P) (w := w) (K := K) (mg := mg) (base := base) T
    have F_Lgreat := ok_Lgreat (P := P) (w := w) (K := K) (mg := mg) (base := base) T
    have F_Lodd := ok_Lodd (P := P) (w := w) (K := K) (mg := mg) (base := base) T
    have F_Lbent_text := ok_Lbent_text (P := P) (w := w) (K := K) (mg := mg) (base := base) T
    have F_Lof := ok_Lof (P := P) (w := w) (K := K) (mg := mg) (base := base) T
    refine ⟨_, PSs.nox (pss_cons (ps_set (i := 1) sc_Ltexts.nd rfl (by first | exact Or.inl rfl | exact Or.inr rfl) (pe_cl F_Llaw_text hr (by rfl) pass0 (pa_cons (pe_cl F_Llaw_drawn hr (by rfl) pass0 (pa_cons (pv 0) (pa_cons pe_int pa_nil))) pa_nil)))
      (pss_cons (ps_set (i := 2) sc_Ltexts.nd rfl (by first | exact Or.inl rfl | exact Or.inr rfl) (pe_op op_cat (pe_op op_cat (pe_lst (pa_cons (pv 1) pa_nil)) (pe_lc (own := [("lap", 3)]) (g := gName 3) (tt := tYes) rfl sc_Ltexts.nd (pi_range1 (by rfl) T.z_range (pa_cons pe_int pa_nil)) (blkOk_by (N := ["pot", "text", "found", "lap"]) (sc := defScope s_Ltexts) (by decide +kernel)) (fun _ _ _ _ _ => (pg_name (i := 3) sc_Ltexts.nd rfl (by first | exact Or.inl rfl | exact Or.inr rfl))) (fun _ _ _ _ _ => pts_nil) (fun _ _ _ _ _ => (pe_cl F_Lbent_text hr (by rfl) pass0 (pa_cons (pv 0) (pa_cons (pv 1) pa_nil)))))) (pe_lst (pa_cons (pe_op o_addS (pv 1) (pe_strS [10] (by rfl))) (pa_cons (pe_strS [] (by rfl)) (pa_cons (pe_strS [108, 97, 119] (by rfl)) (pa_cons (pe_op o_addS (pv 1) (pe_strS [10, 115, 116, 97, 116, 101, 32, 97] (by rfl))) pa_nil)))))))
      (pss_cons (ps_set (i := 2) sc_Ltexts.nd rfl (by first | exact Or.inl rfl | exact Or.inr rfl) (pe_op op_cat (pv 2) (pe_lst (pa_consU (peu_cat [108, 97, 119, 10] (by rfl) o_addS (pv 1)) (pat_cons (pet_of (pe_jn (pe_strS [10] (by rfl)) (pe_slice sl_list (pe_split (pv 1) (pe_strS [10] (by rfl))) po_none (po_some (pe_un un_neg pe_int))))) (pat_cons (pet_rep [115, 116, 97, 116, 101] [111, 102, 116, 101, 110] (by rfl) (by rfl) (by decide +kernel) (pv 1)) pat_nil))))))
      (pss_one (ps_ret (pe_op op_cat (pv 2) (pe_lst (pa_cons (pe_cl F_Lgreat hr (by rfl) pass0 (pa_cons (pe_cl F_Lof hr (by rfl) pass0 (pa_cons (pv 0) (pa_cons (pe_lst (pa_cons pe_int (pa_cons pe_int (pa_cons pe_int pa_nil)))) pa_nil))) pa_nil)) (pa_cons pe_non (pa_cons pe_int (pa_cons (pe_lst (pa_cons (pv 1) pa_nil)) (pa_cons (pe_cl F_Lodd hr (by rfl) pass0 (pa_cons (pv 0) pa_nil)) pa_nil)))))))))))), ?_⟩
    walk_at "r"
    refine ⟨a, c, 6, rfl, by decide, by decide, hP, by omega, fun H1 o rs b1 P1 hO hw hl6 => ?_⟩
    walk_at "r"
    have hsh := hw.g.short
    refine ⟨o, rs, rfl, hO.s, hsh, fun H2 s2 => ?_⟩
    obtain ⟨tx, etx, ltx, atx⟩ := hsh.text
    replace ltx : tx.length ≤ 600 := by omega
    rw [etx]
    have P2 := P1.same s2
    have b2 := b1.trans (But.of s2)
    clear hO hsh etx P1 b1 s2
    walk_at "r"
    refine ⟨by show 1 ≤ sizeLine; decide, fun p1 hp1 => ?_⟩
    have f1 : (upd H2 p1 (.lst [.str (S tx)])) p1 = some (.lst [.str (S tx)]) := upd_same
    have n1 := P2.fresh hp1
    have b3 := b2.trans (But.of (same_new hp1 (o := .lst [.str (S tx)])))
    have P3 := P2.same (same_new hp1 (o := .lst [.str (S tx)]))
    generalize upd H2 p1 (.lst [.str (S tx)]) = H3 at f1 b3 P3 ⊢
    clear b2 P2 hp1
    walk_at "r"
    refine ⟨3, rfl, by decide, by decide, fun D hD => ?_⟩
    have Da : D ≠ a := P3.fresh hD
    refine lc_acc (n := 3) (fun i X => But a H3 X ∧ PotAt X a (c + 30 + 6 * i)) (fun _ v => ∃ l : List Nat, v = .str (S l) ∧ l.length ≤ 20000 ∧ ∀ c ∈ l, c < 128) (by decide) ⟨But.of (same_new hD), (P3.new hD).mono (by omega)⟩ (fun i G acc acc' e h3 => ⟨e.1.mut hD, e.2.ne Da⟩) (fun i G hi e => hi) (fun G e => Nat.le_refl _) ?_ ?_
    · rintro i v X Y acc hi ⟨e, Pe⟩ hacc ⟨rfl, rfl⟩ R hR
      walk_at "r"
      refine ⟨rfl, ?_⟩
      walk_at "r"
      refine ⟨a, _, tx, rfl, Pe, by omega, by omega, atx, fun Z m bZ PZ lm am => ?_⟩
      exact hR _ _ (bZ _ _ Da hacc) ⟨_, rfl, by omega, am⟩ ⟨e.trans bZ, PZ.mono (by omega)⟩
    · rintro X acc hl hv hacc ⟨e, Pe⟩
      obtain ⟨bs, rfl, hbs⟩ := texts_of fun v hv' => by
        obtain ⟨k, hk⟩ := List.getElem?_of_mem hv'
        exact hv k v hk
      rw [List.length_map] at hl
      have f2 := e _ _ n1 f1
      have b4 := b3.trans e
      clear b3 P3 hv f1 e
      refine ⟨p1, D, _, _, rfl, rfl, f2, hacc, by rw [List.length_map, hl]; show 4 ≤ sizeLine; decide, fun p2 hp2 => ?_⟩
      have q2 := same_new hp2 (o := .lst ([V.str (S tx)] ++ bs.map fun l => V.str (S l)))
      have g2 : (upd X p2 (.lst ([V.str (S tx)] ++ bs.map fun l => V.str (S l)))) p2 = some (.lst ((tx :: bs).map fun l => V.str (S l))) := upd_same
      have hA : ∀ l ∈ tx :: bs, l.length ≤ 20000 ∧ ∀ c ∈ l, c < 128 := fun l hl => (List.mem_cons.mp hl).elim (fun e => e ▸ ⟨by omega, atx⟩) (hbs l)
      have nA : (tx :: bs).length = 4 := by rw [List.length_cons, hl]
      have P5 := Pe.same q2
      have b5 := b4.trans (But.of q2)
      have n2 := Pe.fresh hp2
      generalize upd X p2 (.lst ([V.str (S tx)] ++ bs.map fun l => V.str (S l))) = X at g2 P5 b5 ⊢
      generalize tx :: bs = A1 at g2 hA nA
      clear q2 hp2 f2 hacc Pe b4 hbs
      walk_at "r"
      refine r_addS (a := tx) (b := [10]) (by simp only [List.length_cons, List.length_nil]; omega) ?_
      walk_at "r"
      refine r_addS (a := tx) (b := [10, 115, 116, 97, 116, 101, 32, 97]) (by simp only [List.length_cons, List.length_nil]; omega) ?_
      walk_at "r"
      refine ⟨by show 4 ≤ sizeLine; decide, fun p3 hp3 => ?_⟩
      have q3 := same_new hp3 (o := .lst [.str (S (tx ++ [10])), .str (S []), .str (S [108, 97, 119]), .str (S (tx ++ [10, 115, 116, 97, 116, 101, 32, 97]))])
      refine r_wsCat (vs := [tx ++ [10], [], [108, 97, 119], tx ++ [10, 115, 116, 97, 116, 101, 32, 97]]) (q3 _ _ g2) upd_same (by rw [nA]; show 4 + 4 ≤ 1000000; decide) fun X1 p4 q4 hp4 g4 => ?_
      have hp4' : X p4 = none := same_free q3 hp4
      have hB : ∀ l ∈ A1 ++ [tx ++ [10], [], [108, 97, 119], tx ++ [10, 115, 116, 97, 116, 101, 32, 97]], l.length ≤ 20000 ∧ ∀ c ∈ l, c < 128 := fun l hl => by
        rcases List.mem_append.mp hl with h | h
        · exact hA l h
        · simp only [List.mem_cons, List.not_mem_nil, or_false] at h
          have key : ∀ e : List Nat, e.length ≤ 100 → (∀ c ∈ e, c < 128) → (tx ++ e).length ≤ 20000 ∧ ∀ c ∈ tx ++ e, c < 128 := fun e h1 h2 => ⟨by rw [List.length_append]; omega, fun c hc => (List.mem_append.mp hc).elim (atx c) (h2 c)⟩
          rcases h with rfl | rfl | rfl | rfl
          · exact key _ (by decide) (by decide)
          · exact ⟨by decide, by decide⟩
          · exact ⟨by decide, by decide⟩
          · exact key _ (by decide) (by decide)
      have nB : (A1 ++ [tx ++ [10], [], [108, 97, 119], tx ++ [10, 115, 116, 97, 116, 101, 32, 97]]).length = 8 := by rw [List.length_append, nA]; rfl
      generalize A1 ++ [tx ++ [10], [], [108, 97, 119], tx ++ [10, 115, 116, 97, 116, 101, 32, 97]] = A2 at g4 hB nB
      have P6 := P5.same (Same.trans q3 q4)
      have b6 := b5.trans (But.of (Same.trans q3 q4))
      have n4 := P5.fresh hp4'
      clear hA nA g2 q3 q4 hp3 hp4 hp4' P5 b5
      walk_at "r"
      refine r_addS (a := [108, 97, 119, 10]) (b := tx) (by simp only [List.length_cons, List.length_nil]; omega) ?_
      walk_at "r"
      refine ⟨⟨_, rfl⟩, ?_⟩
      walk_at "r"
      refine ⟨⟨_, rfl⟩, ?_⟩
      walk_at "r"
      refine ⟨_, _, rfl, rfl, rfl, by rw [S_len]; exact lt_line (by omega), ?_⟩
      rw [split_cut (by decide)]
      refine r_newS fun X2 p5 q5 hp5 g5 => ?_
      walk_at "r"
      refine r_wsMid g5 fun X3 p6 mid q6 _ tm mm g6 => ?_
      have htc := tot_cut 10 tx
      have hjt := (joinL_tot 10 mid).1
      refine r_joinSp (SqL.of g6) (by omega) ?_
      have hja : ∀ c ∈ TL.joinL [10] mid, c < 128 := joinL_asc (by decide) fun w hw => cutL_asc atx w (mm w hw)
      have hjl : (TL.joinL [10] mid).length ≤ 20000 := by omega
      generalize TL.joinL [10] mid = jn at hja hjl ⊢
      refine r_rep ?_
      walk_at "r"
      obtain ⟨rp, erp, lrp, arp⟩ := rep_txt (x := tx) (y := [115, 116, 97, 116, 101]) (z := [111, 102, 116, 101, 110]) (by decide)
      refine ⟨_, rfl, by rw [S_len, S_len]; simp only [List.length_cons, List.length_nil]; omega, ?_⟩
      rw [erp]
      have hra : ∀ c ∈ rp, c < 128 := fun c hc => (arp c hc).elim (fun h => (by decide : ∀ x ∈ ([111, 102, 116, 101, 110] : List Nat), x < 128) c h) (atx c)
      have hrl : rp.length ≤ 20000 := by simp only [List.length_cons, List.length_nil] at lrp; omega
      walk_at "r"
      refine ⟨by show 3 ≤ sizeLine; decide, fun p7 hp7 => ?_⟩
      have q7 := same_new hp7 (o := .lst [.str (S ([108, 97, 119, 10] ++ tx)), .str (S jn), .str (S rp)])
      have qA := Same.trans (Same.trans q5 q6) q7
      refine r_wsCat (vs := [[108, 97, 119, 10] ++ tx, jn, rp]) (qA _ _ g4) upd_same (by rw [nB]; show 8 + 3 ≤ 1000000; decide) fun X4 p8 q8 hp8 g8 => ?_
      have hp8' : X1 p8 = none := same_free qA hp8
      have hC : ∀ l ∈ A2 ++ [[108, 97, 119, 10] ++ tx, jn, rp], l.length ≤ 20000 ∧ ∀ c ∈ l, c < 128 := fun l hl => by
        rcases List.mem_append.mp hl with h | h
        · exact hB l h
        · simp only [List.mem_cons, List.not_mem_nil, or_false] at h
          rcases h with rfl | rfl | rfl
          · exact ⟨by simp only [List.length_append, List.length_cons, List.length_nil]; omega, fun c hc => (List.mem_append.mp hc).elim (fun h => (by decide : ∀ x ∈ ([108, 97, 119, 10] : List Nat), x < 128) c h) (atx c)⟩
          · exact ⟨hjl, hja⟩
          · exact ⟨hrl, hra⟩
      have nC : (A2 ++ [[108, 97, 119, 10] ++ tx, jn, rp]).length = 11 := by rw [List.length_append, nB]; rfl
      generalize A2 ++ [[108, 97, 119, 10] ++ tx, jn, rp] = A3 at g8 hC nC
      have P7 := P6.same (Same.trans qA q8)
      have b7 := b6.trans (But.of (Same.trans qA q8))
      have n8 := P6.fresh hp8'
      clear hB nB g4 q5 q6 q7 qA q8 hp5 hp7 hp8 hp8' P6 b6 g5 g6
      walk_at "r"
      refine ⟨by show 3 ≤ sizeLine; decide, fun p9 hp9 => ?_⟩
      have q9 := same_new hp9 (o := .lst [.int 64, .int 65, .int 64])
      walk_at "r"
      refine ⟨a, p9, _, _, rfl, P7.same q9, by omega, SqL.of upd_same, P7.fresh hp9, by decide, by decide, fun X5 v b8 P8 hv => ?_⟩
      obtain ⟨n, rfl, hn1, hn2⟩ : ∃ n : Nat, v = .int n ∧ 1 ≤ n ∧ n ≤ 100 := by
        simp only [List.mem_cons, List.not_mem_nil, or_false] at hv
        rcases hv with rfl | rfl | rfl
        · exact ⟨64, rfl, by decide, by decide⟩
        · exact ⟨65, rfl, by decide, by decide⟩
        · exact ⟨64, rfl, by decide, by decide⟩
      have g9 := b8 _ _ n8 (q9 _ _ g8)
      have b9 := (b7.trans (But.of q9)).trans b8
      clear b7 P7 q9 hp9 g8 b8 hv
      walk_at "r"
      refine ⟨n, rfl, hn1, hn2, fun X6 gm q10 lg ag => ?_⟩
      walk_at "r"
      refine ⟨by show 1 ≤ sizeLine; decide, fun p10 hp10 => ?_⟩
      have q11 := same_new hp10 (o := .lst [.str (S tx)])
      have g11 : (upd X6 p10 (.lst [.str (S tx)])) p10 = some (.lst [.str (S tx)]) := upd_same
      have qB := Same.trans q10 q11
      have P10 := P8.same qB
      have n10 := (P8.same q10).fresh hp10
      have b10 := b9.trans (But.of qB)
      replace g9 := qB _ _ g9
      generalize upd X6 p10 (.lst [.str (S tx)]) = X7 at g11 qB P10 b10 g9 ⊢
      clear b9 P8 q10 q11 qB hp10
      walk_at "r"
      refine ⟨a, _, rfl, P10, by omega, fun X8 o d b11 P11 ⟨hod, hoa⟩ => ?_⟩
      replace g9 := b11 _ _ n8 g9
      replace g11 := b11 _ _ n10 g11
      walk_at "r"
      refine ⟨by show 5 ≤ sizeLine; decide, fun p12 hp12 => ?_⟩
      have q12 := same_new hp12 (o := .lst [.str (S gm), .non, .int 7, .ref p10, o])
      refine ⟨p8, p12, _, _, rfl, rfl, q12 _ _ g9, upd_same, by rw [List.length_map, nC]; show 16 ≤ sizeLine; decide, fun p13 hp13 => ?_⟩
      have q13 := same_new hp13 (o := .lst (A3.map (fun l => V.str (S l)) ++ [.str (S gm), .non, .int 7, .ref p10, o]))
      have qC := Same.trans q12 q13
      refine q _ p13 _ ((b10.trans b11).trans (But.of qC)) ((P11.same qC).mono (by omega)) ((P11.same q12).fresh hp13) upd_same (by rw [List.length_append, List.length_map, nC]; show 11 + 5 ≤ 30; decide) fun v hv => ?_
      rcases List.mem_append.mp hv with h | h
      · obtain ⟨l, hl, rfl⟩ := List.mem_map.mp h
        exact TxtV.txt (hC l hl).1 (hC l hl).2
      · simp only [List.mem_cons, List.not_mem_nil, or_false] at h
        rcases h with rfl | rfl | rfl | rfl | rfl
        · exact TxtV.txt (by omega) ag
        · exact TxtV.non
        · exact TxtV.int (by decide)
        · exact TxtV.one n10 (qC _ _ g11) atx
        · exact (TxtV.odd hod hoa).same qC

def sp_LsameN (n : Nat) (K : PySem.W.Frag) : Sp := fun vs H Q _ => ∃ x y : V, vs = [x, y] ∧ Eqv K H true n x y ∧ ∀ H', Same H H' → Q (.bl true) H'
theorem ok_Lsame0 (T : Txt K mg) : Ok P w K mg base CX0 (1) "_law_same" s_Lsame ["told", "due"] (sp_LsameN 0 K) := by
  obtain ⟨fd, D⟩ := T.d_Lsame
  refine ⟨⟨_, fd, T.g__law_same, D, D.bindsN (fun _ _ _ _ _ _ us hl => match us, hl with | [_, _], _ => rfl), ?_⟩⟩
  refine D.ok sc_Lsame (fun vs H Q E h => ?_) (fun cdv A outer s H vs Q E hr h => ?_)
  · obtain ⟨x, y, rfl, h, q⟩ := h
    rfl
  · obtain ⟨x, y, rfl, h, q⟩ := h
    refine ⟨_, PSs.nox (pss_cons (ps_if (pt_val (pe_callB call_isi (by rfl) T.z_isinstance (by decide +kernel) (pa_cons (pv 1) (pa_cons (pe_bltn (v := .ty "tuple") (by rfl) T.z_tuple (by decide +kernel) rfl) pa_nil))))
        (pss_cons ps_never
      (pss_one ps_never))
        pss_nil)
      (pss_cons (ps_if (pt_val (pe_callB call_isi (by rfl) T.z_isinstance (by decide +kernel) (pa_cons (pv 1) (pa_cons (pe_bltn (v := .ty "bool") (by rfl) T.z_bool (by decide +kernel) rfl) pa_nil))))
        (pss_one (ps_ret (pe_and (pe_callB call_isi (by rfl) T.z_isinstance (by decide +kernel) (pa_cons (pv 0) (pa_cons (pe_bltn (v := .ty "bool") (by rfl) T.z_bool (by decide +kernel) rfl) pa_nil))) (pe_one (pe_cmpR op_eq (pv 0) (pv 1) (nomark _))))))
        pss_nil)
      (pss_cons (ps_if (pt_val (pe_callB call_isi (by rfl) T.z_isinstance (by decide +kernel) (pa_cons (pv 1) (pa_cons (pe_bltn (v := .ty "int") (by rfl) T.z_int (by decide +kernel) rfl) pa_nil))))
        (pss_one (ps_ret (pe_and (pe_callB call_isi (by rfl) T.z_isinstance (by decide +kernel) (pa_cons (pv 0) (pa_cons (pe_bltn (v := .ty "int") (by rfl) T.z_int (by decide +kernel) rfl) pa_nil))) (pe_and (pe_not (pe_callB call_isi (by rfl) T.z_isinstance (by decide +kernel) (pa_cons (pv 0) (pa_cons (pe_bltn (v := .ty "bool") (by rfl) T.z_bool (by decide +kernel) rfl) pa_nil)))) (pe_one (pe_cmpR op_eq (pv 0) (pv 1) (nomark _)))))))
        pss_nil)
      (pss_one (ps_ret (pe_ifExp (pt_val (pe_callB call_isi (by rfl) T.z_isinstance (by decide +kernel) (pa_cons (pv 1) (pa_cons (pe_bltn (v := .ty "str") (by rfl) T.z_str (by decide +kernel) rfl) pa_nil)))) (pe_and (pe_callB call_isi (by rfl) T.z_isinstance (by decide +kernel) (pa_cons (pv 0) (pa_cons (pe_bltn (v := .ty "str") (by rfl) T.z_str (by decide +kernel) rfl) pa_nil))) (pe_one (pe_cmpR op_eq (pv 0) (pv 1) (nomark _)))) (pe_cmpR o_isN (pv 0) pe_non (nomark _)))))))), ?_⟩
    rcases h with ⟨i, rfl, rfl⟩ | ⟨l, rfl, rfl⟩ | ⟨rfl, rfl⟩ | ⟨_, b, rfl, rfl⟩
    · walk_at "r"
      rw [decide_eq_true rfl]
      exact q _ (Same.refl _)
    · walk_at "r"
      rw [decide_eq_true rfl]
      exact q _ (Same.refl _)
    · walk_at "r"
      rw [decide_eq_true rfl]
      exact q _ (Same.refl _)
    · walk_at "r"
      rw [decide_eq_true rfl]
      exact q _ (Same.refl _)
theorem ok_LsameS {m : Nat} (F_Lsame : Ok P w K mg base CX0 (m + 1) "_law_same" s_Lsame ["told", "due"] (sp_LsameN m K)) (T : Txt K mg) : Ok P w K mg base CX0 (m + 1 + 1) "_law_same" s_Lsame ["told", "due"] (sp_LsameN (m + 1) K) := by
  obtain ⟨fd, D⟩ := T.d_Lsame
  refine ⟨⟨_, fd, T.g__law_same, D, D.bindsN (fun _ _ _ _ _ _ us hl => match us, hl with | [_, _], _ => rfl), ?_⟩⟩
  refine D.ok sc_Lsame (fun vs H Q E h => ?_) (fun cdv A outer s H vs Q E hr h => ?_)
  · obtain ⟨x, y, rfl, h, q⟩ := h
    rfl
  · obtain ⟨x, y, rfl, h, q⟩ := h
    refine ⟨_, PSs.nox (pss_cons (ps_if (pt_val (pe_callB call_isi (by rfl) T.z_isinstance (by decide +kernel) (pa_cons (pv 1) (pa_cons (pe_bltn (v := .ty "tuple") (by rfl) T.z_tuple (by decide +kernel) rfl) pa_nil))))
        (pss_cons (ps_set (i := 2) sc_Lsame.nd rfl (by first | exact Or.inl rfl | exact Or.inr rfl) (pe_and (pe_callB call_isi (by rfl) T.z_isinstance (by decide +kernel) (pa_cons (pv 0) (pa_cons (pe_bltn (v := .ty "tuple") (by rfl) T.z_tuple (by decide +kernel) rfl) pa_nil))) (pe_one (pe_cmpR op_eq (pe_callB k_lnQ (by rfl) T.z_len (by decide +kernel) (pa_cons (pv 0) pa_nil)) (pe_callB k_lnQ (by rfl) T.z_len (by decide +kernel) (pa_cons (pv 1) pa_nil)) (nomark _)))))
      (pss_one (ps_ret (pe_and (pv 2) (pe_one (pe_callB (cr_all rfl) (by rfl) T.z_all (by decide +kernel) (pa_cons (pe_lc (own := [("one", 3), ("other", 4)]) (g := gTup K 2 (gCons (gName 3) (gCons (gName 4) gNil))) (tt := tYes) rfl sc_Lsame.nd (RZ.pi_zipA (by rfl) T.z_zip (pa_cons (pv 0) (pa_cons (pv 1) pa_nil))) (blkOk_by (N := ["told", "due", "is_fit", "one", "other"]) (sc := defScope s_Lsame) (by decide +kernel)) (fun _ _ _ _ _ => (pg_tup rfl (pgs_cons (pg_name (i := 3) sc_Lsame.nd rfl (by first | exact Or.inl rfl | exact Or.inr rfl)) (pgs_cons (pg_name (i := 4) sc_Lsame.nd rfl (by first | exact Or.inl rfl | exact Or.inr rfl)) pgs_nil)))) (fun _ _ _ _ _ => pts_nil) (fun _ _ _ _ _ => (pe_cl F_Lsame hr (by rfl) pass0 (pa_cons (pv 3) (pa_cons (pv 4) pa_nil)) (hj := Nat.le_refl _)))) pa_nil)))))))
        pss_nil)
      (pss_cons (ps_if (pt_val (pe_callB call_isi (by rfl) T.z_isinstance (by decide +kernel) (pa_cons (pv 1) (pa_cons (pe_bltn (v := .ty "bool") (by rfl) T.z_bool (by decide +kernel) rfl) pa_nil))))
        (pss_one (ps_ret (pe_and (pe_callB call_isi (by rfl) T.z_isinstance (by decide +kernel) (pa_cons (pv 0) (pa_cons (pe_bltn (v := .ty "bool") (by rfl) T.z_bool (by decide +kernel) rfl) pa_nil))) (pe_one (pe_cmpR op_eq (pv 0) (pv 1) (nomark _))))))
        pss_nil)
      (pss_cons (ps_if (pt_val (pe_callB call_isi (by rfl) T.z_isinstance (by decide +kernel) (pa_cons (pv 1) (pa_cons (pe_bltn (v := .ty "int") (by rfl) T.z_int (by decide +kernel) rfl) pa_nil))))
        (pss_one (ps_ret (pe_and (pe_callB call_isi (by rfl) T.z_isinstance (by decide +kernel) (pa_cons (pv 0) (pa_cons (pe_bltn (v := .ty "int") (by rfl) T.z_int (by decide +kernel) rfl) pa_nil))) (pe_and (pe_not (pe_callB call_isi (by rfl) T.z_isinstance (by decide +kernel) (pa_cons (pv 0) (pa_cons (pe_bltn (v := .ty "bool") (by rfl) T.z_bool (by decide +kernel) rfl) pa_nil)))) (pe_one (pe_cmpR op_eq (pv 0) (pv 1) (nomark _)))))))
        pss_nil)
      (pss_one (ps_ret (pe_ifExp (pt_val (pe_callB call_isi (by rfl) T.z_isinstance (by decide +kernel) (pa_cons (pv 1) (pa_cons (pe_bltn (v := .ty "str") (by rfl) T.z_str (by decide +kernel) rfl) pa_nil)))) (pe_and (pe_callB call_isi (by rfl) T.z_isinstance (by decide +kernel) (pa_cons (pv 0) (pa_cons (pe_bltn (v := .ty "str") (by rfl) T.z_str (by decide +kernel) rfl) pa_nil))) (pe_one (pe_cmpR op_eq (pv 0) (pv 1) (nomark _)))) (pe_cmpR o_isN (pv 0) pe_non (nomark _)))))))), ?_⟩
    rcases h with h | ⟨a, b, xs, ys, rfl, rfl, ha, hb, hl, hz, hi⟩
    · rcases h with ⟨i, rfl, rfl⟩ | ⟨l, rfl, rfl⟩ | ⟨rfl, rfl⟩ | ⟨_, b, rfl, rfl⟩
      · walk_at "r"
        rw [decide_eq_true rfl]
        exact q _ (Same.refl _)
      · walk_at "r"
        rw [decide_eq_true rfl]
        exact q _ (Same.refl _)
      · walk_at "r"
        rw [decide_eq_true rfl]
        exact q _ (Same.refl _)
      · walk_at "r"
        rw [decide_eq_true rfl]
        exact q _ (Same.refl _)
    · walk_at "r"
      refine r_isiT hb (b := true) (by decide +kernel) ?_
      walk_at "r"
      refine r_isiT ha (b := true) (by decide +kernel) ?_
      walk_at "r"
      refine r_lnU ha ?_
      walk_at "r"
      refine r_lnU hb ?_
      walk_at "r"
      refine r_yesD (by rw [hl]) ?_
      walk_at "r"
      refine ⟨a, b, xs, ys, rfl, .inr ⟨ha, hb, fun D hD => ?_⟩⟩
      refine lc_acc (n := xs.length) (fun _ H' => Same H H') (fun _ v => v = .bl true) hz (same_new hD) (fun i H' acc acc' e _ => Same.mut e hD) (fun i H' hi' e => ?_) (fun H' e => ?_) ?_ ?_
      · obtain ⟨x, hx⟩ : ∃ x, xs[i]? = some x := ⟨xs[i], List.getElem?_eq_getElem hi'⟩
        obtain ⟨y, hy⟩ : ∃ y, ys[i]? = some y := ⟨ys[i], List.getElem?_eq_getElem (by omega)⟩
        exact ⟨xs, ys, x, y, Same.sqt e ha, Same.sqt e hb, hx, hy⟩
      · exact ⟨xs, ys, Same.sqt e ha, Same.sqt e hb, .inl (Nat.le_refl _)⟩
      · rintro i v H' H2 acc hi' e hacc ⟨T2, x, y, rfl, hT, rfl, f1, f2⟩ R hR
        have ex := f1 _ (Same.sqt e ha)
        have ey := f2 _ (Same.sqt e hb)
        refine r_gTup (SqT.of upd_same) rfl ?_
        walk_at "r"
        refine ⟨rfl, ?_⟩
        walk_at "r"
        have e2 := e.trans (same_new hT (o := .tup [x, y]))
        exact ⟨x, y, rfl, (hi i x y ex ey).same e2, fun H4 e4 => hR _ _ (e4 _ _ (same_new hT _ _ hacc)) rfl (e2.trans e4)⟩
      · intro H' acc hl2 hv hacc e
        walk_at "r"
        rw [all_true hl2 hv] at hacc
        exact r_allT hacc (q _ e)
theorem ok_Lsame (T : Txt K mg) : ∀ n, Ok P w K mg base CX0 (n + 1) "_law_same" s_Lsame ["told", "due"] (sp_LsameN n K)
  | 0 => ok_Lsame0 T
  | n + 1 => ok_LsameS (ok_Lsame T n) T

def spHeard (K : PySem.W.Frag) : SpT := fun tl f c' q vs H Q _ => vs = [.ref f] ∧ H c' = some (CodeO c' q) ∧ ∀ (H0 : Hp) (E' : XK) (Q' : VK), Same H H0 →
  (∀ (C dd : Addr) (fs : List (Str × V)) (H1 : Hp), H1 dd = some (.xd fs) → PySem.W.exmOne K (.ref C) (.ref (He.ga K "PlayError")) = some true → (∀ a H2 p, H1 a = none → Same H1 H2 → H2 a = some (ExcV (.ref C) (some dd) a) → H2 p = none → Q (.ref p) (upd H2 p (.tup [.ref a, .non]))) → E' (.ref C) (some dd) H1) →
  (∀ (v : V) (H1 : Hp), (∀ p, H1 p = none → Q (.ref p) (upd H1 p (.tup [.non, v]))) → Q' v H1) → tl E' H0 Q'
theorem hlen_Lheard {tl : XK → Hp → VK → Prop} {g c' : Addr} {q : Str} (vs : List V) (H : Hp) (Q : VK) (E : XK) (h : spHeard K tl g c' q vs H Q E) : vs.length = ["call"].length := by
  obtain ⟨rfl, _⟩ := h
  rfl
theorem ok_Lheard (T : Txt K mg) : OkT P w K mg base CX0 (fun _ => True) 14 12 "_law_heard" s_Lheard ["call"] (spHeard K) := by
  obtain ⟨fd, D⟩ := T.d_Lheard
  refine okT_of T.g__law_heard D (D.bindsN (fun _ _ _ _ _ _ us hl => match us, hl with | [_], _ => rfl)) sc_Lheard fun cdv A outer s H vs Q E q f c' tl _ TH hr h => ?_
  obtain ⟨rfl, hc, h⟩ := h
  refine ⟨_, PSs.nox (pss_cons (ps_asg (pe_tup (pa_cons pe_non (pa_cons pe_non pa_nil))) (pg_tup rfl (pgs_cons (pg_name (i := 2) sc_Lheard.nd rfl (Or.inl rfl)) (pgs_cons (pg_name (i := 3) sc_Lheard.nd rfl (Or.inl rfl)) pgs_nil))))
    (pss_cons (ps_try_asV (i := 1) (tb := fun W => tAsg (tThk 0 f c' q tl (WE W)) (gName 3)) rfl rfl rfl sc_Lheard.nd rfl rfl (by rfl) T.g_PlayError (by decide) takes0
      (fun W pn xe tk => pss_one (ps_set (i := 3) sc_Lheard.nd rfl (Or.inl rfl) (pe_thk TH rfl hr (fun σ => passAt tk σ) rfl (Or.inl rfl) (by decide))))
      (fun a oe cls d pn => pss_one (ps_set (i := 2) sc_Lheard.nd rfl (Or.inl rfl) (pv 1))))
    (pss_one (ps_ret (pe_tup (pa_cons (pv 2) (pa_cons (pv 3) pa_nil))))))), ?_⟩
  walk_at "r"
  refine ⟨by show 2 ≤ sizeLine; decide, fun p0 hp0 => ?_⟩
  walk_at "r"
  refine r_gTup (SqT.of upd_same) rfl ?_
  walk_at "r"
  have e0 := same_new hp0 (o := .tup [.non, .non])
  refine r_thk rfl (e0 _ _ hc) ?_
  refine h _ _ _ e0 (fun C dd fs H1 hd hx q => ?_) fun v H1 q => ?_
  · refine ⟨true, hx, fun _ a ha => ?_, fun z => nomatch z⟩
    walk_at "r"
    refine r_endV ?_
    walk_at "r"
    exact ⟨by show 2 ≤ sizeLine; decide, fun p hp => q a _ p ha (same_new ha) upd_same hp⟩
  · walk_at "r"
    exact ⟨by show 2 ≤ sizeLine; decide, q⟩

def sp_Llaw_readB (K : PySem.W.Frag) : Sp := fun vs H Q _ => ∃ (x : V) (d : PyData) (z0 : Addr), vs = [x] ∧ Dat K z0 H d x ∧ (∀ l, d = .str (S l) → l.length ≤ 50000 ∧ ∀ c ∈ l, c < 128) ∧
  (∀ n, BadV d n → ∀ H' p, Same H H' → H' p = some (.tup [.non, .int (n : Nat)]) → Q (.ref p) H') ∧
  (∀ l, d = .str (S l) → GoodAt (cutL 10 l) → ∀ H' p F, Same H H' → H' p = some (.tup [.ref F, .non]) → OwnH H' F (rowsOf (cutL 10 l)) → Q (.ref p) H')
theorem ok_Llaw_readB (T : Txt K mg) : Ok P w K mg base CX0 2 "_law_law_read" s_Llaw_read ["text"] (sp_Llaw_readB K) :=
  (ok_Llaw_read T).imp fun _ _ _ _ ⟨x, d, z0, e, h1, h2, q1, q2⟩ => ⟨x, d, z0, e, h1, h2, fun ht H' p s h => q1 0 (.inl ⟨ht, rfl⟩) H' p s h, fun l n e hb H' p s h => q1 n (.inr ⟨l, e, hb⟩) H' p s h, q2⟩
def sp_Lis_right_text (K : PySem.W.Frag) : Sp := fun vs H Q _ => ∃ (a : Addr) (x : V), vs = [x] ∧ TxtV K a H x ∧ Tabs (tabs K tf) H ∧ ∀ H', ExtN H H' → Tabs (tabs K tf) H' → Q (.bl true) H'
theorem ok_Lis_right_text (T : Txt K mg) (TB : TBs K mg base tf) : Ok P w K mg base CX0 (15) "_law_is_right_text" s_Lis_right_text ["text"] (sp_Lis_right_text K) := by
  obtain ⟨fd, D⟩ := T.d_Lis_right_text
  refine ⟨⟨_, fd, T.g__law_is_right_text, D, D.bindsN (fun _ _ _ _ _ _ us hl => match us, hl with | [_], _ => rfl), ?_⟩⟩
  refine okC D sc_Lis_right_text (fun vs H Q E h => ?_) (fun cdv A outer s H vs Q E hcd hr h => ?_)
  · obtain ⟨a, x, rfl, ⟨d, hd, htx⟩, hT, q⟩ := h
    rfl
  · obtain ⟨a, x, rfl, ⟨d, hd, htx⟩, hT, q⟩ := h
    have F_Llaw_read := ok_Llaw_readB (P := P) (w := w) (K := K) (mg := mg) (base := base) T
    have F_Lheard := ok_Lheard (P := P) (w := w) (K := K) (mg := mg) (base := base) T
    have F_Lsame := ok_Lsame (P := P) (w := w) (K := K) (mg := mg) (base := base) T 1
    have F_Law_initK := ok_Law_initK (P := P) (w := w) (K := K) (mg := mg) (base := base) T
    have F_Law___len__ := ok_Law___len__ (P := P) (w := w) (K := K) (mg := mg) (base := base) T
    refine ⟨_, PSs.nox (pss_cons (ps_asg (pe_cl F_Llaw_read hr (by rfl) pass0 (pa_cons (pv 0) pa_nil)) (pg_tup rfl (pgs_cons (pg_name (i := 2) sc_Lis_right_text.nd rfl (by first | exact Or.inl rfl | exact Or.inr rfl)) (pgs_cons (pg_name (i := 3) sc_Lis_right_text.nd rfl (by first | exact Or.inl rfl | exact Or.inr rfl)) pgs_nil))))
      (pss_cons (ps_asg (pe_lamT F_Lheard trivial rfl rfl (TB.at mem_Lis_right_text) hcd (tabs_mem mem_Lis_right_text) T.u_Lis_right_text hr (by rfl) pass0 (by exact (show LamS (defScope s_Lis_right_text) _ from lamS_by (by decide +kernel))) (by rfl) (fun _ _ _ _ _ => rfl) (fun A outer s H E f c' hr => (pe_mkK0 (K := K) rfl T.mk_Law F_Law_initK (hr.mono (by omega)) (by rfl) T.g_Law (fun _ _ D => kb_Law_init_1_text D) (passes_call (takes_of rfl rfl rfl rfl) fun _ _ _ _ h => h) (pk_cons (pv 0) pk_nil))) pa_nil (fun _ _ _ _ => hlen_Lheard)) (pg_tup rfl (pgs_cons (pg_name (i := 4) sc_Lis_right_text.nd rfl (by first | exact Or.inl rfl | exact Or.inr rfl)) (pgs_cons (pg_name (i := 5) sc_Lis_right_text.nd rfl (by first | exact Or.inl rfl | exact Or.inr rfl)) pgs_nil))))
      (pss_cons (ps_if (pt_cmpR o_notN (pv 3) pe_non (nomark _))
        (pss_one (ps_ret (pe_and (pe_callB call_isX (by rfl) T.z_isinstance (by decide +kernel) (pa_cons (pv 4) (pa_cons (pe_glob (v := .ref _) (by rfl) T.g_BadLaw rfl) pa_nil))) (pe_one (pe_cl F_Lsame hr (by rfl) pass0 (pa_cons (pe_xv (pv 4)) (pa_cons (pv 3) pa_nil)))))))
        pss_nil)
      (pss_cons (ps_if (PW.pt (pw_or (pt_cmpR o_notN (pv 4) pe_non (nomark _)) (pw_or (pt_cmpR op_ne (pe_fld (pv 5) rfl) (pv 0) (nomark _)) (pw_or1 (pt_not (pt_val (pe_cl F_Lsame hr (by rfl) pass0 (pa_cons (pe_callB (cr_lenO F_Law___len__ rfl T.l_Law (hr.mono (by omega))) (by rfl) T.z_len (by decide +kernel) (pa_cons (pv 5) pa_nil)) (pa_cons (pe_callB k_lnQ (by rfl) T.z_len (by decide +kernel) (pa_cons (pv 2) pa_nil)) pa_nil)))))))))
        (pss_one (ps_ret pe_bl))
        pss_nil)
      (pss_cons (ps_set (i := 1) sc_Lis_right_text.nd rfl (by first | exact Or.inl rfl | exact Or.inr rfl) (pe_tupleOf (by rfl) T.z_tuple (pe_lc (own := [("name", 6), ("is_often", 7), ("ways", 8)]) (g := gTup K 3 (gCons (gName 6) (gCons (gName 7) (gCons (gName 8) gNil)))) rfl sc_Lis_right_text.nd (pi_list (pv 2)) (blkOk_by (N := ["text", "often", "own", "number", "caught", "rule", "name", "is_often", "ways", "row"]) (sc := defScope s_Lis_right_text) (by decide +kernel)) (fun _ _ _ _ _ => (pg_tup rfl (pgs_cons (pg_name (i := 6) sc_Lis_right_text.nd rfl (by first | exact Or.inl rfl | exact Or.inr rfl)) (pgs_cons (pg_name (i := 7) sc_Lis_right_text.nd rfl (by first | exact Or.inl rfl | exact Or.inr rfl)) (pgs_cons (pg_name (i := 8) sc_Lis_right_text.nd rfl (by first | exact Or.inl rfl | exact Or.inr rfl)) pgs_nil))))) (fun _ _ _ _ _ => (pts_one (pt_val (pv 7)))) (fun _ _ _ _ _ => (pv 6)))))
      (pss_one (ps_ret (pe_and (pe_cl F_Lsame hr (by rfl) pass0 (pa_cons (pe_fld (pv 5) rfl) (pa_cons (pe_tupleOf (by rfl) T.z_tuple (pe_lc (own := [("row", 9)]) (g := gName 9) (tt := tYes) rfl sc_Lis_right_text.nd (pi_list (pv 2)) (blkOk_by (N := ["text", "often", "own", "number", "caught", "rule", "name", "is_often", "ways", "row"]) (sc := defScope s_Lis_right_text) (by decide +kernel)) (fun _ _ _ _ _ => (pg_name (i := 9) sc_Lis_right_text.nd rfl (by first | exact Or.inl rfl | exact Or.inr rfl))) (fun _ _ _ _ _ => pts_nil) (fun _ _ _ _ _ => (pe_ix (show IxR _ (rIxT K) from ix_tup) (pv 9) pe_int (fun _ _ => rfl))))) pa_nil))) (pe_one (pe_cl F_Lsame hr (by rfl) pass0 (pa_cons (pe_fld (pv 5) rfl) (pa_cons (pv 1) pa_nil)))))))))))), ?_⟩
    walk_at "r"
    refine ⟨x, d, a, rfl, hd, fun l e => ⟨by have := (htx l e).1; omega, (htx l e).2⟩, fun n hbad H1 p e1 h1 => ?_, fun l hdl hgood H1 p F e1 h1 hO => ?_⟩
    · refine r_gTup (SqT.of h1) rfl ?_
      walk_at "r"
      refine r_lamT (hT.ext e1) fun f c' H2 eN T2 hco => ?_
      walk_at "r"
      refine ⟨hco, rfl, hco, fun H3 E' Q' e3 fin1 fin2 => ?_⟩
      have hd3 := dat_same e3 (dat_extN eN (dat_same e1 hd))
      have errc : ∀ m, BadV d m → ∀ H4 e, Same H3 H4 → H4 e = some (.xd [("value", .int (m : Nat))]) → E' (.ref (He.ga K "BadLaw")) (some e) H4 := fun m hm H4 e e4 he => by
        obtain rfl := hbad.uniq hm
        refine fin1 _ e _ H4 he T.x_BadLaw fun v H5 p hv e5 fv hp => ?_
        refine r_gTup (SqT.of upd_same) rfl ?_
        have e6 := e5.trans (same_new hp (o := .tup [.ref v, .non]))
        have e46 := e4.trans e6
        have fv6 := same_new hp (o := .tup [.ref v, .non]) _ _ fv
        have fd6 := e6 _ _ he
        generalize upd H5 p (.tup [.ref v, .non]) = H6 at e6 e46 fv6 fd6 ⊢
        walk_at "r"
        rw [show decide (V.int (n : Int) = V.non) = false from decide_eq_false (fun z => nomatch z)]
        walk_at "r"
        refine r_isXe fv6 fd6 T.e_BadLaw.i T.k_BadLaw_BadLaw ?_
        walk_at "r"
        refine r_xv ?_
        walk_at "r"
        refine ⟨v, _, e, _, _, rfl, fv6, fd6, T.e_BadLaw.f, T.e_BadLaw.no, rfl, ?_⟩
        walk_at "r"
        refine ⟨_, _, rfl, Eqv.int, fun H7 e7 => ?_⟩
        have e27 := (e3.trans e46).trans e7
        exact q _ ((extN_same e1).trans (eN.trans (extN_same e27))) (T2.ext e27)
      walk_at "r"
      refine ⟨rfl, rfl, fun o dx ho hdx ndx => ?_⟩
      have sM : Same H3 (upd (upd H3 dx (.own o)) o (.ins (He.ga K "Law") dx [])) := made_same ho hdx (fun _ _ _ h => h)
      refine ⟨o, dx, x, d, a, rfl, upd_same, dat_same sM hd3, fun l e => by have := (htx l e).1; omega, fun hty H4 e e4 _ he => errc 0 (.inl ⟨hty, rfl⟩) H4 e (sM.trans e4) he, fun l m el hb H4 e e4 _ he => errc m (.inr ⟨l, el, hb⟩) H4 e (sM.trans e4) he, fun l el hg => ?_⟩
      subst el
      exact (hbad.not_good hg).elim
    · subst hdl
      obtain rfl : x = .str (S l) := by unfold Dat at hd; exact hd.1
      refine r_gTup (SqT.of h1) rfl ?_
      walk_at "r"
      refine r_lamT (hT.ext e1) fun f c' H2 eN T2 hco => ?_
      walk_at "r"
      refine ⟨hco, rfl, hco, fun H3 E' Q' e3 fin1 fin2 => ?_⟩
      clear fin1
      have hd3 := dat_same e3 (dat_extN eN (dat_same e1 hd))
      have nb : ∀ m, ¬ BadV (.str (S l)) m := fun m hm => hm.not_good hgood
      walk_at "r"
      refine ⟨rfl, rfl, fun o dx ho hdx ndx => ?_⟩
      have sM : Same H3 (upd (upd H3 dx (.own o)) o (.ins (He.ga K "Law") dx [])) := made_same ho hdx (fun _ _ _ h => h)
      refine ⟨o, dx, .str (S l), .str (S l), a, rfl, upd_same, dat_same sM hd3, fun l e => by have := (htx l e).1; omega, fun hty H4 e e4 _ he => absurd rfl hty, fun k m el hb H4 e e4 _ he => (nb m (.inr ⟨k, el, hb⟩)).elim, fun k el hg H4 b4 hR => ⟨rfl, ?_⟩⟩
      obtain rfl : l = k := S_inj (PyData.str.inj el)
      have e4 := made_same ho hdx b4
      refine fin2 _ _ fun p2 hp2 => ?_
      have hlines := good_lines hgood
      have etext : textF (rowsOf (cutL 10 l)) = S l := by
        unfold textF
        rw [← hlines, join_SP, (cutL_ok 10 l).2.2]
      have hG := good_law hgood
      generalize rowsOf (cutL 10 l) = rs at hO hR etext hG
      have hlen := hG.len
      refine r_gTup (SqT.of upd_same) rfl ?_
      have e5 := e4.trans (same_new hp2 (o := .tup [.non, .ref o]))
      have R5 := hR.same (same_new hp2 (o := .tup [.non, .ref o]))
      generalize upd H4 p2 (.tup [.non, .ref o]) = H5 at e5 R5 ⊢
      have e35 := e3.trans e5
      have hF : ∃ ts : List Addr, H1 F = some (.lst (ts.map V.ref)) ∧ Paired (RowH H1) rs ts := hO
      obtain ⟨ts, hF1, hFr⟩ := hF
      have hF5 : H5 F = some (.lst (ts.map V.ref)) := e35 _ _ (eN _ _ hF1 fun _ z => nomatch z)
      have hFr5 : Paired (RowH H5) rs ts := hFr.mono fun r t ⟨d, g1, g2⟩ => ⟨d, e35 _ _ (eN _ _ g1 fun _ z => nomatch z), e35 _ _ (eN _ _ g2 fun _ z => nomatch z)⟩
      have hts : ts.length = rs.length := hFr5.length.symm
      have T5 := T2.ext e35
      have E5 := (extN_same e1).trans (eN.trans (extN_same e35))
      replace q : ∀ H', Same H5 H' → Q (.bl true) H' := fun H' e => q H' (E5.trans (extN_same e)) (T5.ext e)
      clear E5 T5 hO hFr hF1 nb hd3 hd sM e4 hR e5 e35 b4 hdx ho
      walk_at "r"
      rw [show decide (V.non = V.non) = true from decide_eq_true rfl]
      walk_at "r"
      rw [show decide (V.non = V.non) = true from decide_eq_true rfl]
      walk_at "r"
      obtain ⟨dx5, f5, x5, y5⟩ := R5.text
      refine ⟨o, _, dx5, f5, _, rfl, x5, T.cl_Law, T.na_Law_text, y5, ?_⟩
      walk_at "r"
      rw [etext, decide_eq_true rfl]
      walk_at "r"
      refine ⟨o, dx5, f5, rfl, x5, o, rs, rfl, R5, fun H6 s6 => ⟨_, rfl, by omega, ?_⟩⟩
      walk_at "r"
      refine r_lnL (SqL.of (s6 _ _ hF5)) ?_
      rw [List.length_map, hts]
      walk_at "r"
      refine ⟨_, _, rfl, Eqv.int, fun H7 s7 => ?_⟩
      walk_at "r"
      have s57 := Same.trans s6 s7
      have R7 := R5.same s57
      have hF7 := s57 _ _ hF5
      have hFr7 := hFr5.mono fun _ _ h => h.same s57
      refine ⟨F, rfl, ⟨_, SqL.of hF7⟩, fun E3 hE3 => lc_list (K := K) (a := F) (xs := ts.map V.ref) (fun i X => Same H7 X ∧ X E3 = some (.lst ((oftens (rs.take i)).map fun l => V.str (S l)))) ⟨same_new hE3, upd_same⟩ (fun i X _ h => SqL.of (h.1 _ _ hF7)) ?_ ?_⟩
      · rintro i v X ev ⟨s8, e8⟩
        rw [List.getElem?_map] at ev
        obtain ⟨p, ep, rfl⟩ := Option.map_eq_some_iff.mp ev
        obtain ⟨r, er, d, hr1, hr2⟩ := paired_get hFr7 ep
        have hi : i < rs.length := (List.getElem?_eq_some_iff.mp er).1
        refine r_gTup (SqT.of (s8 _ _ hr1)) rfl ?_
        walk_at "r"
        refine ⟨rfl, ?_⟩
        walk_at "r"
        cases ho : r.oft
        · walk_at "r"
          refine ⟨s8, ?_⟩
          rw [e8, take_snoc' er, oftens_snoc, ho, if_neg Bool.false_ne_true, List.append_nil]
        · walk_at "r"
          refine ⟨_, e8, ?_, Same.mut s8 hE3, ?_⟩
          · rw [List.length_map]
            unfold oftens
            rw [List.length_map]
            have := List.length_filter_le (·.oft) (rs.take i)
            rw [List.length_take] at this
            exact lt_line (by omega)
          · rw [upd_same, take_snoc' er, oftens_snoc, ho, if_pos rfl, List.map_append]
            rfl
      rintro H8 ⟨s8, e8⟩
      rw [List.length_map, hts, List.take_length] at e8
      walk_at "r"
      refine .inl ⟨E3, _, rfl, SqL.of e8, fun ot hot => ?_⟩
      have s9 := Same.trans s8 (same_new hot (o := .tup ((oftens rs).map fun l => V.str (S l))))
      have o9 : (upd H8 ot (.tup ((oftens rs).map fun l => V.str (S l)))) ot = some (.tup ((oftens rs).map fun l => V.str (S l))) := upd_same
      have R9 := R7.same s9
      have hF9 := s9 _ _ hF7
      have hFr9 := hFr7.mono fun _ _ h => h.same s9
      have s59 := Same.trans s57 s9
      generalize upd H8 ot (.tup ((oftens rs).map fun l => V.str (S l))) = H9 at o9 R9 hF9 hFr9 s59 ⊢
      clear s9 s8 e8 R7 hF7 hFr7 s6 s7 s57 R5 hF5 hFr5 x5
      walk_at "r"
      obtain ⟨dn, fn, nt, xn, yn, hnt⟩ := R9.names
      refine ⟨o, _, dn, fn, _, rfl, xn, T.cl_Law, T.na_Law_names, yn, ?_⟩
      walk_at "r"
      refine ⟨F, rfl, ⟨_, SqL.of hF9⟩, fun E4 hE4 => lc_list (K := K) (a := F) (xs := ts.map V.ref) (fun i X => Same H9 X ∧ X E4 = some (.lst (((rs.take i).map (·.nm)).map fun l => V.str (S l)))) ⟨same_new hE4, upd_same⟩ (fun i X _ h => SqL.of (h.1 _ _ hF9)) ?_ ?_⟩
      · rintro i v X ev ⟨s10, e10⟩
        rw [List.getElem?_map] at ev
        obtain ⟨p, ep, rfl⟩ := Option.map_eq_some_iff.mp ev
        obtain ⟨r, er, d, hr1, hr2⟩ := paired_get hFr9 ep
        have hi : i < rs.length := (List.getElem?_eq_some_iff.mp er).1
        walk_at "r"
        refine ⟨rfl, ?_⟩
        walk_at "r"
        refine r_ixT (SqT.of (s10 _ _ hr1)) rfl ?_
        refine ⟨_, e10, by rw [List.length_map, List.length_map, List.length_take]; exact lt_line (by omega), Same.mut s10 hE4, ?_⟩
        rw [upd_same, take_snoc' er, List.map_append, List.map_append]
        rfl
      rintro H10 ⟨s10, e10⟩
      rw [List.length_map, hts, List.take_length] at e10
      refine .inl ⟨E4, _, rfl, SqL.of e10, fun nn hnn => ?_⟩
      have s11 := Same.trans s10 (same_new hnn (o := .tup ((rs.map (·.nm)).map fun l => V.str (S l))))
      have n11 : (upd H10 nn (.tup ((rs.map (·.nm)).map fun l => V.str (S l)))) nn = some (.tup ((rs.map (·.nm)).map fun l => V.str (S l))) := upd_same
      generalize upd H10 nn (.tup ((rs.map (·.nm)).map fun l => V.str (S l))) = H11 at s11 n11 ⊢
      have sc : ∀ ls : List (List Nat), ∀ v ∈ ls.map fun l => V.str (S l), Sc true v v := fun ls v hv => by
        obtain ⟨l, _, rfl⟩ := List.mem_map.mp hv
        exact .inr (.inl ⟨_, rfl, rfl⟩)
      have hol : (oftens rs).length ≤ 64 := by
        unfold oftens
        rw [List.length_map]
        have := List.length_filter_le (·.oft) rs
        omega
      walk_at "r"
      refine ⟨_, _, rfl, Eqv.flat (SqT.of (s11 _ _ hnt)) (SqT.of n11) (by rw [List.length_map, List.length_map]; omega) (sc _), fun H12 s12 => ?_⟩
      walk_at "r"
      have s912 := Same.trans s11 s12
      obtain ⟨dn2, fn2, nt2, xn2, yn2, hnt2⟩ := (R9.same s912).often
      refine ⟨o, _, dn2, fn2, _, rfl, xn2, T.cl_Law, T.na_Law_often, yn2, ?_⟩
      walk_at "r"
      refine ⟨_, _, rfl, Eqv.flat (SqT.of hnt2) (SqT.of (s912 _ _ o9)) (by rw [List.length_map]; omega) (sc _), fun H13 s13 => ?_⟩
      exact q _ (Same.trans s59 (Same.trans s912 s13))

def sp_Lright (K : PySem.W.Frag) : Sp := fun vs H Q _ => ∃ (a : Addr), vs = [.ref a] ∧ PotAt H a 0 ∧ Tabs (tabs K tf) H ∧ ∀ H', ButT a H H' → Tabs (tabs K tf) H' → Q (.bl true) H'
theorem ok_Lright (T : Txt K mg) (TB : TBs K mg base tf) : Ok P w K mg base CX0 (16) "_law_right" s_Lright ["pot"] (sp_Lright K) := by
  obtain ⟨fd, D⟩ := T.d_Lright
  refine ⟨⟨_, fd, T.g__law_right, D, D.bindsN (fun _ _ _ _ _ _ us hl => match us, hl with | [_], _ => rfl), ?_⟩⟩
  refine D.ok sc_Lright (fun vs H Q E h => ?_) (fun cdv A outer s H vs Q E hr h => ?_)
  · obtain ⟨a, rfl, hP, hT, q⟩ := h
    rfl
  · obtain ⟨a, rfl, hP, hT, q⟩ := h
    have F_Llaw_text := ok_Llaw_text (P := P) (w := w) (K := K) (mg := mg) (base := base) T
    have F_Law_init := ok_Law_init (P := P) (w := w) (K := K) (mg := mg) (base := base) T
    have F_Llaw_drawn := ok_Llaw_drawn (P := P) (w := w) (K := K) (mg := mg) (base := base) T
    have F_Lis_right_text := ok_Lis_right_text (P := P) (w := w) (K := K) (mg := mg) (base := base) T TB
    have F_Lsame := ok_Lsame (P := P) (w := w) (K := K) (mg := mg) (base := base) T 1
    have F_Ltexts := ok_Ltexts (P := P) (w := w) (K := K) (mg := mg) (base := base) T
    have F_Law___eq__ := ok_Law___eq__ (P := P) (w := w) (K := K) (mg := mg) (base := base) T
    refine ⟨_, PSs.nox (pss_cons (ps_if (pt_not (pt_val (pe_callB (cr_all rfl) (by rfl) T.z_all (by decide +kernel) (pa_cons (pe_lc (own := [("text", 6)]) (g := gName 6) (tt := tYes) rfl sc_Lright.nd (pi_list (pe_cl F_Ltexts hr (by rfl) pass0 (pa_cons (pv 0) pa_nil))) (blkOk_by (N := ["pot", "texts", "one", "other", "lap", "told", "text"]) (sc := defScope s_Lright) (by decide +kernel)) (fun _ _ _ _ _ => (pg_name (i := 6) sc_Lright.nd rfl (by first | exact Or.inl rfl | exact Or.inr rfl))) (fun _ _ _ _ _ => pts_nil) (fun _ _ _ _ _ => (pe_cl F_Lis_right_text hr (by rfl) pass0 (pa_cons (pv 6) pa_nil)))) pa_nil))))
        (pss_one (ps_ret pe_bl))
        pss_nil)
      (pss_cons (ps_setLc (i := 1) (own := [("lap", 4)]) (g := gName 4) (tt := tYes) rfl sc_Lright.nd rfl rfl (sw_true rfl rfl rfl rfl) (pi_range1 (by rfl) T.z_range (pa_cons pe_int pa_nil)) (blkOk_by (N := ["pot", "texts", "one", "other", "lap", "told", "text"]) (sc := defScope s_Lright) (by decide +kernel)) (fun _ _ _ _ _ => (pg_name (i := 4) sc_Lright.nd rfl (by first | exact Or.inl rfl | exact Or.inr rfl))) (fun _ _ _ _ _ => pts_nil) (fun _ _ _ _ _ => (pe_cl F_Llaw_text hr (by rfl) pass0 (pa_cons (pe_cl F_Llaw_drawn hr (by rfl) pass0 (pa_cons (pv 0) (pa_cons pe_int pa_nil))) pa_nil))))
      (pss_cons (ps_for PassesOwn.never rfl (pi_list (pv 1)) (pg_name (i := 2) sc_Lright.nd rfl (by first | exact Or.inl rfl | exact Or.inr rfl))
        (pss_one (ps_for PassesOwn.never rfl (pi_list (pv 1)) (pg_name (i := 3) sc_Lright.nd rfl (by first | exact Or.inl rfl | exact Or.inr rfl))
        (pss_cons (ps_set (i := 5) sc_Lright.nd rfl (by first | exact Or.inl rfl | exact Or.inr rfl) (pe_tup (pa_cons (pe_cmpR (op_eqO F_Law___eq__ rfl T.o_Law (hr.mono (by omega))) (pe_mkI T.mk_Law F_Law_init (hr.mono (by omega)) (by rfl) T.g_Law passNone (pa_cons (pv 2) pa_nil)) (pe_mkI T.mk_Law F_Law_init (hr.mono (by omega)) (by rfl) T.g_Law passNone (pa_cons (pv 3) pa_nil)) (nomark _)) (pa_cons (pe_cmpR (op_neO F_Law___eq__ rfl T.o_Law (hr.mono (by omega))) (pe_mkI T.mk_Law F_Law_init (hr.mono (by omega)) (by rfl) T.g_Law passNone (pa_cons (pv 2) pa_nil)) (pe_mkI T.mk_Law F_Law_init (hr.mono (by omega)) (by rfl) T.g_Law passNone (pa_cons (pv 3) pa_nil)) (nomark _)) pa_nil))))
      (pss_one (ps_if (pt_not (pt_val (pe_cl F_Lsame hr (by rfl) pass0 (pa_cons (pv 5) (pa_cons (pe_tup (pa_cons (pe_cmpR op_eq (pv 2) (pv 3) (nomark _)) (pa_cons (pe_cmpR op_ne (pv 2) (pv 3) (nomark _)) pa_nil))) pa_nil)))))
        (pss_one (ps_ret pe_bl))
        pss_nil))))))
      (pss_one (ps_ret (pe_cmpR (op_neO F_Law___eq__ rfl T.o_Law (hr.mono (by omega))) (pe_mkI T.mk_Law F_Law_init (hr.mono (by omega)) (by rfl) T.g_Law passNone (pa_cons (pe_ix ix_list (pv 1) pe_int (fun _ _ => rfl)) pa_nil)) (pe_ix ix_list (pv 1) pe_int (fun _ _ => rfl)) (nomark _))))))), ?_⟩
    walk_at "r"
    refine ⟨a, 0, rfl, hP, by decide, fun H1 p vs b1 P1 npa hp hn hvs => ?_⟩
    have T1 := tabs_pot hT hP b1
    refine ⟨p, rfl, ⟨_, SqL.of hp⟩, fun D hD => lc_list (K := K) (a := p) (xs := vs) (fun i X => ExtN H1 X ∧ Tabs (tabs K tf) X ∧ X D = some (.lst (List.replicate i (V.bl true)))) ⟨extN_same (same_new hD), T1.ext (same_new hD), upd_same⟩ (fun i X _ h => extN_sql h.1 (SqL.of hp)) ?_ ?_⟩
    · rintro i v X ev ⟨eX, tX, dX⟩
      have hi := (List.getElem?_eq_some_iff.mp ev).1
      walk_at "r"
      refine ⟨rfl, ?_⟩
      walk_at "r"
      refine ⟨a, v, rfl, (hvs v (List.mem_of_getElem? ev)).extN eX, tX, fun X2 e2 t2 => ?_⟩
      have d2 := e2 _ _ dX fun _ z => nomatch z
      refine ⟨_, d2, by rw [List.length_replicate]; exact lt_line (by omega), ?_, tabs_mut t2 d2, ?_⟩
      · exact ExtN.mut (eX.trans e2) hD
      · rw [upd_same, List.replicate_succ']
    · rintro X ⟨eX, tX, dX⟩
      walk_at "r"
      refine r_allT dX ?_
      have PX := P1.extN eX
      have bX := (ButT.ofB b1).trans (ButT.ofN (a := a) eX)
      clear hvs hp eX dX T1 P1
      walk_at "r"
      refine ⟨3, rfl, by decide, by decide, fun D2 hD2 => ?_⟩
      have Da : D2 ≠ a := PX.fresh hD2
      refine lc_acc (n := 3) (fun i Y => But a X Y ∧ PotAt Y a (60 + 30 * i)) (fun _ v => ∃ l : List Nat, v = .str (S l) ∧ ∃ rs, textF rs = S l ∧ LawG rs) (by decide) ⟨But.of (same_new hD2), (PX.new hD2).mono (by omega)⟩ (fun i G acc acc' e h3 => ⟨e.1.mut hD2, e.2.ne Da⟩) (fun i G hi e => hi) (fun G e => Nat.le_refl _) ?_ ?_
      · rintro i v Y Z acc hi ⟨e, Pe⟩ hacc ⟨rfl, rfl⟩ R hR
        walk_at "r"
        refine ⟨rfl, ?_⟩
        walk_at "r"
        refine ⟨a, _, 3, rfl, by decide, by decide, Pe, by omega, fun Y2 o rs b2 P2 hO hw hl => ?_⟩
        walk_at "r"
        refine ⟨o, rs, rfl, hO.s, hw.g.short, fun Y3 s3 => ?_⟩
        obtain ⟨tx, etx, _, _⟩ := hw.g.short.text
        rw [etx]
        exact hR _ _ (s3 _ _ (b2 _ _ Da hacc)) ⟨tx, rfl, rs, etx, hw.g⟩ ⟨(e.trans b2).trans (But.of s3), (P2.same s3).mono (by omega)⟩
      · rintro Y acc hl hv hacc ⟨e, Pe⟩
        obtain ⟨ls, rfl, hls⟩ := texts_of fun v hv' => by
          obtain ⟨k, hk⟩ := List.getElem?_of_mem hv'
          exact hv k v hk
        rw [List.length_map] at hl
        have TY := tabs_pot tX PX e
        have bY := bX.trans (ButT.ofB e)
        clear e bX PX tX hv
        have mk : ∀ (G : Hp) (l : List Nat), l ∈ ls → ∃ rs d z0, textF rs = S l ∧ LawG rs ∧ Dat K z0 G d (.str (S l)) ∧ d = .str (S l) ∧ l.length ≤ 50000 := fun G l hl => by
          obtain ⟨rs, e, hG⟩ := hls l hl
          obtain ⟨m, em, lm, am⟩ := hG.short.text
          obtain rfl : m = l := S_inj (em.symm.trans e)
          have := hG.len
          exact ⟨rs, .str (S m), 0, e, hG, dat_W am, rfl, by omega⟩
        have mkL : ∀ (G : Hp) (l : List Nat) (x dx : Addr) (Qv : VK), l ∈ ls → G x = none → G dx = none → dx ≠ x → (∀ H' rs, Same G H' → textF rs = S l → RuleAt (He.ga K "Law") H' x rs → Qv .non H') → sp_Law_init K [.ref x, .str (S l)] (upd (upd G dx (.own x)) x (.ins (He.ga K "Law") dx [])) Qv E0 := fun G l x dx Qv hm hx hdx ndx fin => by
          obtain ⟨rs, d, z0, e, hG, hd, rfl, ll⟩ := mk (upd (upd G dx (.own x)) x (.ins (He.ga K "Law") dx [])) l hm
          obtain ⟨hg, et⟩ := text_rows hG e
          refine ⟨x, dx, .str (S l), _, z0, rfl, upd_same, hd, fun k ek => by obtain rfl : l = k := S_inj (PyData.str.inj ek); exact ll, fun hty => absurd rfl hty, fun k n ek hb => ?_, fun k ek _ H' b hR => ?_⟩
          · obtain rfl : l = k := S_inj (PyData.str.inj ek)
            exact (hb.not_good hg).elim
          · obtain rfl : l = k := S_inj (PyData.str.inj ek)
            exact fin H' _ (made_same hx hdx b) (et.trans e) hR
        walk_at "r"
        refine ⟨D2, rfl, ⟨_, SqL.of hacc⟩, for_list (K := K) (a := D2) (xs := ls.map fun l => V.str (S l)) (fun i σ Z => ∃ y z u, σ = [some (.ref a), some (.ref D2), y, z, none, u, none] ∧ Same Y Z) ⟨_, _, _, rfl, Same.refl _⟩ (fun i σ Z _ g => by obtain ⟨_, _, _, _, g⟩ := g; exact SqL.of (g _ _ hacc)) ?_ ?_⟩
        · rintro i v σ Z ev ⟨y, z, u, rfl, sZ⟩
          rw [List.getElem?_map] at ev
          obtain ⟨l1, e1, rfl⟩ := Option.map_eq_some_iff.mp ev
          have m1 := List.mem_of_getElem? e1
          walk_at "r"
          refine ⟨D2, rfl, ⟨_, SqL.of (sZ _ _ hacc)⟩, for_list (K := K) (a := D2) (xs := ls.map fun l => V.str (S l)) (fun i σ Z => ∃ z u, σ = [some (.ref a), some (.ref D2), some (.str (S l1)), z, none, u, none] ∧ Same Y Z) ⟨_, _, rfl, sZ⟩ (fun i σ Z _ g => by obtain ⟨_, _, _, g⟩ := g; exact SqL.of (g _ _ hacc)) ?_ ?_⟩
          · rintro j v σ Z ev ⟨z, u, rfl, sZ⟩
            rw [List.getElem?_map] at ev
            obtain ⟨l2, e2, rfl⟩ := Option.map_eq_some_iff.mp ev
            have m2 := List.mem_of_getElem? e2
            walk_at "r"
            intro x1 d1 hx1 hd1 nd1
            refine mkL Z l1 x1 d1 _ m1 hx1 hd1 nd1 fun Z1 rs1 s1 t1 R1 => ⟨rfl, ?_⟩
            walk_at "r"
            intro x2 d2 hx2 hd2 nd2
            refine mkL Z1 l2 x2 d2 _ m2 hx2 hd2 nd2 fun Z2 rs2 s2 t2 R2 => ⟨rfl, ?_⟩
            replace R1 := R1.same s2
            obtain ⟨_, _, a1, _⟩ := R1.text
            obtain ⟨_, _, a2, _⟩ := R2.text
            refine ⟨x1, _, _, rfl, a1, .inl ⟨x2, _, _, rfl, a2⟩, x1, rs1, _, rfl, R1, .inl ⟨x2, rs2, rfl, R2, fun Z3 s3 => ⟨_, rfl, ?_⟩⟩⟩
            rw [t1, t2]
            walk_at "r"
            intro x3 d3 hx3 hd3 nd3
            refine mkL Z3 l1 x3 d3 _ m1 hx3 hd3 nd3 fun Z4 rs3 s4 t3 R3 => ⟨rfl, ?_⟩
            walk_at "r"
            intro x4 d4 hx4 hd4 nd4
            refine mkL Z4 l2 x4 d4 _ m2 hx4 hd4 nd4 fun Z5 rs4 s5 t4 R4 => ⟨rfl, ?_⟩
            replace R3 := R3.same s5
            obtain ⟨_, _, a3, _⟩ := R3.text
            obtain ⟨_, _, a4, _⟩ := R4.text
            refine ⟨x3, _, _, rfl, a3, .inl ⟨x4, _, _, rfl, a4⟩, x3, rs3, _, rfl, R3, .inl ⟨x4, rs4, rfl, R4, fun Z6 s6 => ⟨_, rfl, ?_⟩⟩⟩
            rw [t3, t4]
            have sA := Same.trans (Same.trans (Same.trans sZ s1) (Same.trans s2 s3)) (Same.trans (Same.trans s4 s5) s6)
            clear R1 R2 R3 R4 a1 a2 a3 a4 s1 s2 s3 s4 s5 s6 sZ
            walk_at "r"
            refine ⟨by show 2 ≤ sizeLine; decide, fun p5 hp5 => ?_⟩
            have f5 : (upd Z6 p5 (.tup [.bl (decide (S l1 = S l2) != false), .bl (decide (S l1 = S l2) != true)])) p5 = some (.tup [.bl (decide (S l1 = S l2) != false), .bl (decide (S l1 = S l2) != true)]) := upd_same
            have s7 := same_new hp5 (o := .tup [.bl (decide (S l1 = S l2) != false), .bl (decide (S l1 = S l2) != true)])
            generalize upd Z6 p5 (.tup [.bl (decide (S l1 = S l2) != false), .bl (decide (S l1 = S l2) != true)]) = Z7 at f5 s7 ⊢
            walk_at "r"
            refine ⟨by show 2 ≤ sizeLine; decide, fun p6 hp6 => ?_⟩
            have s8 := same_new hp6 (o := .tup [.bl (decide (V.str (S l1) = V.str (S l2))), .bl (!decide (V.str (S l1) = V.str (S l2)))])
            have hb : decide (V.str (S l1) = V.str (S l2)) = decide (S l1 = S l2) := decide_eq_decide.mpr ⟨fun h => V.str.inj h, fun h => by rw [h]⟩
            have f6 : (upd Z7 p6 (.tup [.bl (decide (V.str (S l1) = V.str (S l2))), .bl (!decide (V.str (S l1) = V.str (S l2)))])) p6 = some (.tup [.bl (decide (S l1 = S l2) != false), .bl (decide (S l1 = S l2) != true)]) := by
              rw [upd_same, hb]
              cases decide (S l1 = S l2) <;> rfl
            walk_at "r"
            refine ⟨_, _, rfl, Eqv.flat (SqT.of (s8 _ _ f5)) (SqT.of f6) (by show 2 ≤ 1000000; decide) (fun v hv => ?_), fun Z8 s9 => ?_⟩
            · simp only [List.mem_cons, List.not_mem_nil, or_false] at hv
              rcases hv with rfl | rfl <;> exact .inr (.inr (.inr ⟨rfl, _, rfl, rfl⟩))
            walk_at "r"
            exact ⟨_, _, rfl, Same.trans sA (Same.trans s7 (Same.trans s8 s9))⟩
          · rintro σ Z ⟨z, u, rfl, sZ⟩
            walk_at "r"
            exact ⟨_, _, _, rfl, sZ⟩
        · rintro σ Z ⟨y, z, u, rfl, sZ⟩
          walk_at "r"
          obtain ⟨l0, e0⟩ : ∃ l, ls[0]? = some l := ⟨_, List.getElem?_eq_getElem (by omega)⟩
          refine r_ixL (SqL.of (sZ _ _ hacc)) (words_at (j := 0) e0) ?_
          walk_at "r"
          intro x1 d1 hx1 hd1 nd1
          refine mkL Z l0 x1 d1 _ (List.mem_of_getElem? e0) hx1 hd1 nd1 fun Z1 rs1 s1 t1 R1 => ⟨rfl, ?_⟩
          walk_at "r"
          refine r_ixL (SqL.of (s1 _ _ (sZ _ _ hacc))) (words_at (j := 0) e0) ?_
          obtain ⟨_, _, a1, _⟩ := R1.text
          refine ⟨x1, _, _, rfl, a1, .inr ⟨_, rfl⟩, x1, rs1, _, rfl, R1, .inr ⟨_, rfl, fun Z3 s3 => ⟨_, rfl, ?_⟩⟩⟩
          have sA := Same.trans (Same.trans sZ s1) s3
          exact q _ (bY.trans (ButT.of sA)) (TY.ext sA)
def sp_law (K : PySem.W.Frag) : Sp := fun vs H Q _ => ∃ (a : Addr) (ns : List Int), vs = [.ref a] ∧ SqL K H a (ns.map V.int) ∧ ns.length ≤ 63 ∧ Tabs (tabs K tf) H ∧ ∀ H', Q (.bl true) H'
theorem ok_law (T : Txt K mg) (TB : TBs K mg base tf) : Ok P w K mg base CX0 (17) "law" s_law ["script"] (sp_law K) := by
  obtain ⟨fd, D⟩ := T.d_law
  refine ⟨⟨_, fd, T.g_law, D, D.bindsN (fun _ _ _ _ _ _ us hl => match us, hl with | [_], _ => rfl), ?_⟩⟩
  refine D.ok sc_law (fun vs H Q E h => ?_) (fun cdv A outer s H vs Q E hr h => ?_)
  · obtain ⟨a, ns, rfl, hS, hlen, hT, q⟩ := h
    rfl
  · obtain ⟨a, ns, rfl, hS, hlen, hT, q⟩ := h
    have F_Lright := ok_Lright (P := P) (w := w) (K := K) (mg := mg) (base := base) T TB
    have F_Lpot := ok_Lpot (P := P) (w := w) (K := K) (mg := mg) (base := base) T
    have F_Lcells := ok_Lcells (P := P) (w := w) (K := K) (mg := mg) (base := base) T
    refine ⟨_, PSs.nox (pss_one (ps_ret (pe_callB (cr_all rfl) (by rfl) T.z_all (by decide +kernel) (pa_cons (pe_lc (own := [("place", 1)]) (g := gName 1) (tt := tYes) rfl sc_law.nd (pi_list (pe_cl F_Lcells hr (by rfl) pass0 (pa_cons (pv 0) (pa_cons pe_int pa_nil)))) (blkOk_by (N := ["script", "place"]) (sc := defScope s_law) (by decide +kernel)) (fun _ _ _ _ _ => (pg_name (i := 1) sc_law.nd rfl (by first | exact Or.inl rfl | exact Or.inr rfl))) (fun _ _ _ _ _ => pts_nil) (fun _ _ _ _ _ => (pe_cl F_Lright hr (by rfl) pass0 (pa_cons (pe_cl F_Lpot hr (by rfl) pass0 (pa_cons (pv 0) (pa_cons (pv 1) pa_nil))) pa_nil)))) pa_nil)))), ?_⟩
    walk_at "r"
    refine ⟨a, _, _, rfl, hS, by decide, by decide, fun H1 p n e1 hn hp => ?_⟩
    refine ⟨p, rfl, ⟨_, SqL.of hp⟩, fun D hD => ?_⟩
    have T1 := hT.ext e1
    refine lc_acc (n := n) (fun i G' => ExtN H1 G' ∧ Tabs (tabs K tf) G') (fun _ v => v = .bl true) (by omega) ⟨extN_same (same_new hD), tabs_new T1 hD⟩ (fun i G' acc acc' e h3 => ⟨ExtN.mut e.1 hD, tabs_mut e.2 h3⟩) (fun i G' hi e => ?_) (fun G' e => ?_) ?_ ?_
    · exact ⟨_, .int i, SqL.of (e.1 _ _ hp fun _ z => nomatch z), by rw [List.getElem?_map, List.getElem?_range hi]; rfl⟩
    · exact ⟨_, SqL.of (e.1 _ _ hp fun _ z => nomatch z), by rw [List.length_map, List.length_range]; exact Nat.le_refl _⟩
    · rintro i v G' G2 acc hi ⟨e, Te⟩ hacc ⟨rfl, f⟩ R hR
      have ev := f _ (SqL.of (e _ _ hp fun _ z => nomatch z))
      rw [List.getElem?_map, List.getElem?_range hi] at ev
      obtain rfl : V.int (i : Int) = v := Option.some.inj ev
      walk_at "r"
      refine ⟨rfl, ?_⟩
      walk_at "r"
      refine ⟨a, ns, i, rfl, extN_sql e (e1.seq hS), by omega, fun G3 pt e3 hpt P3 => ?_⟩
      walk_at "r"
      refine ⟨pt, rfl, P3, Te.ext e3, fun G4 e4 T4 => ?_⟩
      have hx : ExtN G2 G4 := fun b o hb hn => e4 b o (fun z => by rw [z, hpt] at hb; cases hb) (e3 b o hb) hn
      exact hR _ _ (hx _ _ hacc fun _ z => nomatch z) rfl ⟨e.trans hx, T4⟩
    · rintro G' acc hl hv hacc e
      walk_at "r"
      rw [all_true hl hv] at hacc
      exact r_allT hacc (q _)



end
/-! ### the head -/
def d_Lpot : He.DefD := ⟨("_law_pot", none), "_law_pot", "_law_pot", defArgs s_Lpot, defBody s_Lpot, defScope s_Lpot, [], []⟩
def d_Ltake : He.DefD := ⟨("_law_take", none), "_law_take", "_law_take", defArgs s_Ltake, defBody s_Ltake, defScope s_Ltake, [], []⟩
def d_Lof : He.DefD := ⟨("_law_of", none), "_law_of", "_law_of", defArgs s_Lof, defBody s_Lof, defScope s_Lof, [], []⟩
def d_Lcells : He.DefD := ⟨("_law_cells", none), "_law_cells", "_law_cells", defArgs s_Lcells, defBody s_Lcells, defScope s_Lcells, [], []⟩
def d_is_name : He.DefD := ⟨("is_name", none), "is_name", "is_name", defArgs s_is_name, defBody s_is_name, defScope s_is_name, [], []⟩
def d_is_head : He.DefD := ⟨("is_head", none), "is_head", "is_head", defArgs s_is_head, defBody s_is_head, defScope s_is_head, [], []⟩
def d_last_word : He.DefD := ⟨("last_word", none), "last_word", "last_word", defArgs s_last_word, defBody s_last_word, defScope s_last_word, [], []⟩
def d_is_state : He.DefD := ⟨("is_state", none), "is_state", "is_state", defArgs s_is_state, defBody s_is_state, defScope s_is_state, [], []⟩
def d_is_way : He.DefD := ⟨("is_way", none), "is_way", "is_way", defArgs s_is_way, defBody s_is_way, defScope s_is_way, [], []⟩
def d_can_stand : He.DefD := ⟨("can_stand", none), "can_stand", "can_stand", defArgs s_can_stand, defBody s_can_stand, defScope s_can_stand, [], []⟩
def d_standing_lines : He.DefD := ⟨("standing_lines", none), "standing_lines", "standing_lines", defArgs s_standing_lines, defBody s_standing_lines, defScope s_standing_lines, [], []⟩
def d_steps_of : He.DefD := ⟨("steps_of", none), "steps_of", "steps_of", defArgs s_steps_of, defBody s_steps_of, defScope s_steps_of, [], []⟩
def d_Law_init : He.DefD := ⟨("Law", some "__init__"), "__init__", "Law.__init__", defArgs s_Law_init, defBody s_Law_init, defScope s_Law_init, [], []⟩
def d_Llaw_is_name : He.DefD := ⟨("_law_law_is_name", none), "_law_law_is_name", "_law_law_is_name", defArgs s_Llaw_is_name, defBody s_Llaw_is_name, defScope s_Llaw_is_name, [], []⟩
def d_Lbent_line : He.DefD := ⟨("_law_bent_line", none), "_law_bent_line", "_law_bent_line", defArgs s_Lbent_line, defBody s_Lbent_line, defScope s_Lbent_line, [], []⟩
def d_Llaw_read : He.DefD := ⟨("_law_law_read", none), "_law_law_read", "_law_law_read", defArgs s_Llaw_read, defBody s_Llaw_read, defScope s_Llaw_read, [], []⟩
def d_Lbent_text : He.DefD := ⟨("_law_bent_text", none), "_law_bent_text", "_law_bent_text", defArgs s_Lbent_text, defBody s_Lbent_text, defScope s_Lbent_text, [], []⟩
def d_Law___eq__ : He.DefD := ⟨("Law", some "__eq__"), "__eq__", "Law.__eq__", defArgs s_Law___eq__, defBody s_Law___eq__, defScope s_Law___eq__, [], []⟩
def d_Law___len__ : He.DefD := ⟨("Law", some "__len__"), "__len__", "Law.__len__", defArgs s_Law___len__, defBody s_Law___len__, defScope s_Law___len__, [], []⟩
def d_Llaw_text : He.DefD := ⟨("_law_law_text", none), "_law_law_text", "_law_law_text", defArgs s_Llaw_text, defBody s_Llaw_text, defScope s_Llaw_text, [], []⟩
def d_Lodd : He.DefD := ⟨("_law_odd", none), "_law_odd", "_law_odd", defArgs s_Lodd, defBody s_Lodd, defScope s_Lodd, [], []⟩
def d_Llaw_drawn : He.DefD := ⟨("_law_law_drawn", none), "_law_law_drawn", "_law_law_drawn", defArgs s_Llaw_drawn, defBody s_Llaw_drawn, defScope s_Llaw_drawn, [], []⟩
def d_Lgreat : He.DefD := ⟨("_law_great", none), "_law_great", "_law_great", defArgs s_Lgreat, defBody s_Lgreat, defScope s_Lgreat, [], []⟩
def d_Ltexts : He.DefD := ⟨("_law_texts", none), "_law_texts", "_law_texts", defArgs s_Ltexts, defBody s_Ltexts, defScope s_Ltexts, [], []⟩
def d_Lsame : He.DefD := ⟨("_law_same", none), "_law_same", "_law_same", defArgs s_Lsame, defBody s_Lsame, defScope s_Lsame, [], []⟩
def d_Lheard : He.DefD := ⟨("_law_heard", none), "_law_heard", "_law_heard", defArgs s_Lheard, defBody s_Lheard, defScope s_Lheard, [], []⟩
def d_Lis_right_text : He.DefD := ⟨("_law_is_right_text", none), "_law_is_right_text", "_law_is_right_text", defArgs s_Lis_right_text, defBody s_Lis_right_text, defScope s_Lis_right_text, [], []⟩
def d_Lright : He.DefD := ⟨("_law_right", none), "_law_right", "_law_right", defArgs s_Lright, defBody s_Lright, defScope s_Lright, [], []⟩
def d_law : He.DefD := ⟨("law", none), "law", "law", defArgs s_law, defBody s_law, defScope s_law, [], []⟩
def d_init : He.DefD := ⟨("PlayError", some "__init__"), "__init__", "PlayError.__init__", defArgs s_init, defBody s_init, defScope s_init, [], []⟩
def fn : List He.DefD := [d_Lpot, d_Ltake, d_Lof, d_Lcells, d_is_name, d_is_head, d_last_word, d_is_state, d_is_way, d_can_stand, d_standing_lines, d_steps_of, d_Law_init, d_Llaw_is_name, d_Lbent_line, d_Llaw_read, d_Lbent_text, d_Law___eq__, d_Law___len__, d_Llaw_text, d_Lodd, d_Llaw_drawn, d_Lgreat, d_Ltexts, d_Lsame, d_Lheard, d_Lis_right_text, d_Lright, d_law, d_init]
def fa : List He.Fa := [.glo "_law_pot", .glo "_law_take", .glo "_law_of", .glo "_law_cells", .glo "is_name", .glo "is_head", .glo "last_word", .glo "is_state", .glo "is_way", .glo "can_stand", .glo "standing_lines", .glo "steps_of", .glo "_law_law_is_name", .glo "_law_bent_line", .glo "_law_law_read", .glo "_law_bent_text", .glo "_law_law_text", .glo "_law_odd", .glo "_law_law_drawn", .glo "_law_great", .glo "_law_texts", .glo "_law_same", .glo "_law_heard", .glo "_law_is_right_text", .glo "_law_right", .glo "law", .str "FATES" "nfs", .str "LETTERS" "abcdefghijklmnopqrstuvwxyz", .int "MOST_LETTERS" 6, .int "MOST_STATES" 64, .int "LINES_OF_A_STATE" 4, .glo "BadLaw", .glo "Law", .glo "PlayError", .exm "BadLaw" "PlayError" true, .cls "Law", .mkr "Law", .noat "Law" "marked", .noat "Law" "names", .noat "Law" "often", .noat "Law" "steps", .noat "Law" "text", .free "abs", .free "all", .free "bool", .free "dict", .free "enumerate", .free "int", .free "isinstance", .free "len", .free "list", .free "max", .free "min", .free "range", .free "str", .free "sum", .free "tuple", .free "type", .free "zip"]
def exl (K : PySem.W.Frag) : List Bool := [apartB K tf,
  eclsB K (He.ga K "BadLaw") (He.ma K (He.ga K "PlayError") "__init__"),
  decide (PySem.W.kitOne K (.type "NoneType") (.ref (He.ga K "BadLaw")) = some false),
  decide (PySem.W.kitOne K (.ref (He.ga K "BadLaw")) (.ref (He.ga K "BadLaw")) = some true),
  ownCB K (He.ga K "Law"),
  ownLB K (He.ga K "Law"),
  ownIB K (He.ga K "Law")]
def ex (K : PySem.W.Frag) : Bool := (exl K).all id
abbrev R : PySem.W.OpenRow := PySem.W.OpenLaw.row PySem.Challenge.rw_twofarplayers_k00_whole_texts_of_laws_an
abbrev hk : PySem.W.Hook := He.hookX 4 fa fn [] tf ex
def ob (s : PySem.W.SharedT) : He.AlX := He.obsX 4 fa fn [] tf ex (HandSHeadRun.getT s)
theorem ob_eq (s : PySem.W.SharedT) : ob s = hk.obs s.abs := He.obsX_eq (HandSHeadRun.getT_eq s)
def loose0 : List Str := ["PlayError", "BadLaw", "FATES", "LETTERS", "MOST_LETTERS", "is_name", "MOST_STATES", "LINES_OF_A_STATE", "Law", "standing_lines", "is_head", "can_stand", "is_state", "is_way", "last_word", "steps_of", "_law_pot", "_law_take", "_law_of", "_law_cells", "_law_heard", "_law_law_is_name", "_law_law_text", "_law_law_read", "_law_law_drawn", "_law_odd", "_law_bent_line", "_law_bent_text", "_law_same", "_law_great"]
def loose1 : List Str := ["_law_texts", "_law_is_right_text", "_law_right"]
def loose : List Str := loose0 ++ loose1
theorem run (w : World) : HandSHeadRun.RunEq R (PySem.W.view R.prog [37]) hk ob 20000 loose w := by
  intro os
  kernel_rfl
theorem txt {K : PySem.W.Frag} {h : Heap} {mg : Str → Option Value} {w : World} (X : K.In h) (G : h.Ns mainGlobals mg) (cX : He.SaysX fa fn [] tf ex w h K) : Txt K mg := by
  have c := cX.t.d
  exact ⟨c.def_ 0 (d := d_Lpot) rfl,
    He.glo_ok X G (c.fact 0 (f := .glo "_law_pot") rfl),
    c.def_ 1 (d := d_Ltake) rfl,
    He.glo_ok X G (c.fact 1 (f := .glo "_law_take") rfl),
    c.def_ 2 (d := d_Lof) rfl,
    He.glo_ok X G (c.fact 2 (f := .glo "_law_of") rfl),
    c.def_ 3 (d := d_Lcells) rfl,
    He.glo_ok X G (c.fact 3 (f := .glo "_law_cells") rfl),
    c.def_ 4 (d := d_is_name) rfl,
    He.glo_ok X G (c.fact 4 (f := .glo "is_name") rfl),
    c.def_ 5 (d := d_is_head) rfl,
    He.glo_ok X G (c.fact 5 (f := .glo "is_head") rfl),
    c.def_ 6 (d := d_last_word) rfl,
    He.glo_ok X G (c.fact 6 (f := .glo "last_word") rfl),
    c.def_ 7 (d := d_is_state) rfl,
    He.glo_ok X G (c.fact 7 (f := .glo "is_state") rfl),
    c.def_ 8 (d := d_is_way) rfl,
    He.glo_ok X G (c.fact 8 (f := .glo "is_way") rfl),
    c.def_ 9 (d := d_can_stand) rfl,
    He.glo_ok X G (c.fact 9 (f := .glo "can_stand") rfl),
    c.def_ 10 (d := d_standing_lines) rfl,
    He.glo_ok X G (c.fact 10 (f := .glo "standing_lines") rfl),
    c.def_ 11 (d := d_steps_of) rfl,
    He.glo_ok X G (c.fact 11 (f := .glo "steps_of") rfl),
    c.def_ 12 (d := d_Law_init) rfl,
    c.def_ 13 (d := d_Llaw_is_name) rfl,
    He.glo_ok X G (c.fact 12 (f := .glo "_law_law_is_name") rfl),
    c.def_ 14 (d := d_Lbent_line) rfl,
    He.glo_ok X G (c.fact 13 (f := .glo "_law_bent_line") rfl),
    c.def_ 15 (d := d_Llaw_read) rfl,
    He.glo_ok X G (c.fact 14 (f := .glo "_law_law_read") rfl),
    c.def_ 16 (d := d_Lbent_text) rfl,
    He.glo_ok X G (c.fact 15 (f := .glo "_law_bent_text") rfl),
    c.def_ 17 (d := d_Law___eq__) rfl,
    c.def_ 18 (d := d_Law___len__) rfl,
    c.def_ 19 (d := d_Llaw_text) rfl,
    He.glo_ok X G (c.fact 16 (f := .glo "_law_law_text") rfl),
    c.def_ 20 (d := d_Lodd) rfl,
    He.glo_ok X G (c.fact 17 (f := .glo "_law_odd") rfl),
    c.def_ 21 (d := d_Llaw_drawn) rfl,
    He.glo_ok X G (c.fact 18 (f := .glo "_law_law_drawn") rfl),
    c.def_ 22 (d := d_Lgreat) rfl,
    He.glo_ok X G (c.fact 19 (f := .glo "_law_great") rfl),
    c.def_ 23 (d := d_Ltexts) rfl,
    He.glo_ok X G (c.fact 20 (f := .glo "_law_texts") rfl),
    c.def_ 24 (d := d_Lsame) rfl,
    He.glo_ok X G (c.fact 21 (f := .glo "_law_same") rfl),
    c.def_ 25 (d := d_Lheard) rfl,
    He.glo_ok X G (c.fact 22 (f := .glo "_law_heard") rfl),
    c.def_ 26 (d := d_Lis_right_text) rfl,
    He.glo_ok X G (c.fact 23 (f := .glo "_law_is_right_text") rfl),
    c.def_ 27 (d := d_Lright) rfl,
    He.glo_ok X G (c.fact 24 (f := .glo "_law_right") rfl),
    c.def_ 28 (d := d_law) rfl,
    He.glo_ok X G (c.fact 25 (f := .glo "law") rfl),
    He.str_ok X G (c.fact 26 (f := .str "FATES" "nfs") rfl),
    He.str_ok X G (c.fact 27 (f := .str "LETTERS" "abcdefghijklmnopqrstuvwxyz") rfl),
    He.int_ok X G (c.fact 28 (f := .int "MOST_LETTERS" 6) rfl),
    He.int_ok X G (c.fact 29 (f := .int "MOST_STATES" 64) rfl),
    He.int_ok X G (c.fact 30 (f := .int "LINES_OF_A_STATE" 4) rfl),
    apart_ok (Tf.all_at cX.more 0 rfl) mem_Lis_right_text,
    c.def_ 29 (d := d_init) rfl,
    He.glo_ok X G (c.fact 31 (f := .glo "BadLaw") rfl),
    He.glo_ok X G (c.fact 32 (f := .glo "Law") rfl),
    He.glo_ok X G (c.fact 33 (f := .glo "PlayError") rfl),
    ecls_ok (Tf.all_at cX.more 1 rfl),
    He.exm_ok (c.fact 34 (f := .exm "BadLaw" "PlayError" true) rfl),
    of_decide_eq_true (Tf.all_at cX.more 2 rfl),
    of_decide_eq_true (Tf.all_at cX.more 3 rfl),
    He.cls_ok (c.fact 35 (f := .cls "Law") rfl),
    He.mkr_ok (c.fact 36 (f := .mkr "Law") rfl),
    He.noat_ok (c.fact 37 (f := .noat "Law" "marked") rfl),
    He.noat_ok (c.fact 38 (f := .noat "Law" "names") rfl),
    He.noat_ok (c.fact 39 (f := .noat "Law" "often") rfl),
    He.noat_ok (c.fact 40 (f := .noat "Law" "steps") rfl),
    He.noat_ok (c.fact 41 (f := .noat "Law" "text") rfl),
    ownC_ok (Tf.all_at cX.more 4 rfl),
    ownL_ok (Tf.all_at cX.more 5 rfl),
    ownI_ok (Tf.all_at cX.more 6 rfl),
    He.free_ok X G (c.fact 42 (f := .free "abs") rfl),
    He.free_ok X G (c.fact 43 (f := .free "all") rfl),
    He.free_ok X G (c.fact 44 (f := .free "bool") rfl),
    He.free_ok X G (c.fact 45 (f := .free "dict") rfl),
    He.free_ok X G (c.fact 46 (f := .free "enumerate") rfl),
    He.free_ok X G (c.fact 47 (f := .free "int") rfl),
    He.free_ok X G (c.fact 48 (f := .free "isinstance") rfl),
    He.free_ok X G (c.fact 49 (f := .free "len") rfl),
    He.free_ok X G (c.fact 50 (f := .free "list") rfl),
    He.free_ok X G (c.fact 51 (f := .free "max") rfl),
    He.free_ok X G (c.fact 52 (f := .free "min") rfl),
    He.free_ok X G (c.fact 53 (f := .free "range") rfl),
    He.free_ok X G (c.fact 54 (f := .free "str") rfl),
    He.free_ok X G (c.fact 55 (f := .free "sum") rfl),
    He.free_ok X G (c.fact 56 (f := .free "tuple") rfl),
    He.free_ok X G (c.fact 57 (f := .free "type") rfl),
    He.free_ok X G (c.fact 58 (f := .free "zip") rfl)⟩
theorem facts {P : Program} {w : World} {K : PySem.W.Frag} {h : Heap} {mg : Str → Option Value} {f : Addr} (X : K.In h) (G : h.Ns mainGlobals mg) (hfa : mg ("law" : Str) = some (.ref f)) (cX : He.SaysX fa fn [] tf ex w h K) :
    ∃ fd : FuncData, (∀ (s : Shared) (v : Value), BindsTo s fd ⟨[v], []⟩ [("script", v)]) ∧ ∀ base : Heap, K.In base → base.Ns mainGlobals mg → TBs K mg base tf → FnOk P w K mg base CX0 17 f fd ["script"] (sp_law K) := by
  have T := txt X G cX
  obtain ⟨fd, D⟩ := T.d_law
  have e := hfa.symm.trans T.g_law
  cases e
  have b := FunD.bindsA (ps := ["script"]) D fun _ _ _ _ _ _ us hl => match us, hl with | [_], _ => rfl
  exact ⟨fd, fun s v => b s [v] rfl, fun base _ _ TB => (ok_law T TB).at T.g_law D⟩
end K00
open PySem PySem.W PySem.Calls PyProof.Rows
theorem PySem.Challenge.cw_twofarplayers_k00_whole_texts_of_laws_an_holds : PySem.Challenge.rw_twofarplayers_k00_whole_texts_of_laws_an.Holds := by
  w_on; o_law
  refine HandSHeadRun.head_any (r := OpenLaw.row PySem.Challenge.rw_twofarplayers_k00_whole_texts_of_laws_an) (q := view (OpenLaw.row PySem.Challenge.rw_twofarplayers_k00_whole_texts_of_laws_an).prog [37]) (H := K00.hk) (ob := K00.ob) (M := 20000) (loose := K00.loose) (d := HandSHeadRun.topDef (OpenLaw.row PySem.Challenge.rw_twofarplayers_k00_whole_texts_of_laws_an).prog 37) (kwd := []) K00.ob_eq
    (by kernel_rfl) (fun s => by kernel_rfl) K00.run (by kernel_rfl) (by kernel_rfl) (by kernel_rfl) (by rfl) (by first | assumption | decide +kernel) (by decide +kernel) ⟨rfl, rfl, rfl, rfl, rfl, by decide +kernel⟩ ?hw ?hc
  case hw => w_witness2
  case hc =>
    refine LamX.walk_ofTsE (l := PySem.Challenge.rw_twofarplayers_k00_whole_texts_of_laws_an) (n := 63) (k := 17) (x := "script") (CX := fun _ => L2.CX0) rfl (by decide) (by kernel_rfl) ⟨rfl, by decide, by decide⟩ ?F (fun _ _ _ _ _ z => z)
    intro w mg fa h Y G hmg0
    obtain ⟨K, KX, cX⟩ := Y
    have hmg : mg ("law" : PySem.Str) = some (.ref fa) := by
      have e : (HandSHeadRun.topDef (OpenLaw.row PySem.Challenge.rw_twofarplayers_k00_whole_texts_of_laws_an).prog 37).name = ("law" : PySem.Str) := by kernel_rfl
      rw [← e]
      exact hmg0
    obtain ⟨fd, hb, hF⟩ := K00.facts (P := (PySem.Challenge.rw_twofarplayers_k00_whole_texts_of_laws_an).prog) (w := w) KX G hmg cX
    exact ⟨K, KX, Tf.lawAt_of KX cX hb (fun H a ns hl hT hS => ⟨a, ns, rfl, hS, hl, hT, fun _ => rfl⟩) hF⟩
