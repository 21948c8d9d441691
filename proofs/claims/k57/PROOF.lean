import PyProof.Rows.All
import Wide.All
import OpenK.AllK
import Wide.FinOn
import PyProof.RangeFor
import HandS.ForMost
import HandS.Defaults
import HandS.WideBits
import HandS.Wide
import HandS.TupMul
import HandS.TupAny
import HandS.Sort
import HandS.RevRange
import HandS.Property
import HandS.EndBits
import HandS.Head0
import HandS.Head1
import HandS.Head2
import HandS.HeadEnd
import HandS.HeadHook1
import HandS.HeadHook2
import HandS.HeadHook3
import HandS.HeadHook4
import HandS.HeadWalk
import HandS.Zip
import KE.KEqDeep
import KE.GoesEnum
import HandS.Walk
import HandS.TryOnly
import HandS.IsInst
import KE.KOpsOwn
import HandS.ClsMeth
import HandS.HeadNt
import HandS.Flow
import HandS.Conv
import KE.KDictZip
import KE.BitLaws
import KE.KxMul
import KE.KTupSum
import HandS.TupLe
import HandS.ExcInit
import HandS.ExcSuper
import HandS.Nested
import KE.KSuper
import HandS.ExcIs
import HandS.ExcField
import HandS.ExcOwn
import HandS.TryMany
import HandS.WordsExc
import PyProof.TupleOfSeq
import OpenK.KMeth
import KE.GoesEnumKw
import HandS.Deep
import HandS.Text
import HandS.Dict
import PyProof.StrOps2
import PySem.Challenge.RW_packedlanes_k57_inputs_refused
set_option Elab.async false
set_option linter.all false
set_option maxRecDepth 100000
set_option maxHeartbeats 4000000
namespace L2
open PySem PySem.Spec PyProof.Rows
/-! ### own operators: x op y of two instances of one class -/
def rOwn (C : Addr) (sp : Sp) (E : XK) : R2 := fun x y H Q => ∃ a b dx dy fs gs, x = .ref a ∧ y = .ref b ∧ H a = some (.ins C dx fs) ∧ H b = some (.ins C dy gs) ∧ sp [.ref a, .ref b] H Q E
theorem cmpBack_of {X : Cx} {pins : List (Addr × Obj)} {σ : St} {Q : VK} {u : Value} {s : Shared} (h : EP X pins σ Q u s) : PySem.W.CmpBack (EP X pins σ Q) u s := by
  obtain ⟨v, H', I', rv, q⟩ := id h
  cases v with
  | non => cases rv; exact h
  | bl b => cases rv; exact h
  | int i => obtain ⟨t, rfl⟩ := id rv; exact h
  | str i => obtain ⟨t, rfl⟩ := id rv; exact h
  | byt i => obtain ⟨t, rfl⟩ := id rv; exact h
  | flt i => obtain ⟨t, rfl⟩ := id rv; exact h
  | ref a => cases rv; exact h
  | ty n => cases rv; exact h
theorem op_own {X : Cx} {CX : CXT} {op : Operator} {x : Str} {C f : Addr} {fd : FuncData} {ps : List Str} {sp : Sp} {E : XK} {k : Nat} (hm : Meth X.K C x f) (sf : PySem.W.selfFirst X.K C = true) (F : FnOk X.prog X.w X.K X.mg X.base CX k f fd ps sp)
    (hr : Room k X.A) (hb : Binds X.K fd ps []) (hx : Passes CX X E) (hn : PySem.dunder op.info.2 = x := by first | rfl | decide +kernel) : OpR X (binaryOp op) (rOwn C sp E) := by
  intro pins s σ H x' y v u Q I rx ry h
  obtain ⟨a, b, dx, dy, fs, gs, rfl, rfl, ha, hb', hsp⟩ := h
  cases rx
  cases ry
  obtain ⟨mA, J, _⟩ := ins_get I.hok ha
  obtain ⟨mB, J', _⟩ := ins_get I.hok hb'
  obtain ⟨od, J, _⟩ := J.look
  obtain ⟨od', J', _⟩ := J'.look
  obtain ⟨m, hF⟩ := I.fr
  subst hn
  refine PySem.W.binop_K hF I.ok.mod.kin J J'.type sf hm.at_ hm.fn ?_
  exact wpAny_mono (run_fn (us := [.ref a, .ref b]) (vs := [.ref a, .ref b]) F hr hb .nil hx I (.cons rfl (.cons rfl .nil)) hsp) (fun v s' q => cmpBack_of q) fun _ _ z => z
/-! ### ranges -/
theorem op_notin_rng {X : Cx} : OpR X (compareOp .NotIn) (fun x y H Q => ∃ i a lo hi, x = V.int i ∧ y = V.ref a ∧ H a = some (.rng lo hi) ∧ Q (.bl (!decide (lo ≤ i ∧ i < hi))) H) := by
  intro pins s σ H x y v u Q I rx ry h
  obtain ⟨i, a, lo, hi, rfl, rfl, ha, q⟩ := h
  obtain ⟨k, rfl⟩ := rx
  obtain rfl : u = Value.ref a := ry
  obtain ⟨t1, t2, t3, ho⟩ := I.hok a _ ha
  show wpAny _ _ (do return Value.bool (!(← contains (Value.ref a) (Value.int i k)))) _ _ s
  refine wpAny_bind (wpAny_contains_slot (T := "range") ⟨_, ho, rfl⟩ F.slot_range_contains (call_meets F.slot_range_contains ⟨_, ho, rfl⟩ F.entry_range_contains (F.args_range_contains_2 _ _) (q_contains a lo hi i t1 t2 t3 k)
    ⟨ho, wpAny_truthy_bool (wpAny_pure ⟨.bl _, H, I, rfl, ?_⟩)⟩))
  rw [place1]
  exact q
theorem cr_range1 {X : Cx} : CallR X (.type "range") (fun vs H Q => ∃ j, vs = [V.int j] ∧ ∀ p, H p = none → Q (.ref p) (upd H p (.rng 0 j))) := by
  intro pins s σ H vs us Q I r h
  obtain ⟨i, rfl, q⟩ := h
  obtain ⟨u1, rfl, t, rfl⟩ := vals1 r
  refine call_range_1 ⟨.ref s.heap.objs.size, upd H s.heap.objs.size (.rng 0 i), I.laid (t' := s.toks + 2) (fun b o e => Heap.get?_push_of_some _ e) (Nat.le_refl _) ?_, rfl, q _ (I.hok.fresh (Nat.le_refl _))⟩
  exact ⟨s.toks, t, s.toks + 1, Heap.get?_push_size _ rfl⟩
/-! ### a law's end: script bits, one written part -/
theorem walk_ofEB {l : PySem.W.OpenLaw} {n k : Nat} {q : Program} {loose : List Str} {XP : (Str → Option Value) → Heap → Prop} {YP : World → Heap → Prop} {d : DefRec} {CX : CXT} {x : Str}
    (hn : l.most = some n) (hn2 : n ≤ sizeLine) (hdf : d.params.defaults = []) (hr : Room k callerA)
    (F : ∀ (w : World) (mg : Str → Option Value) (fa : Addr) (h : Heap), YP w h → h.Ns mainGlobals mg → mg d.name = some (.ref fa) →
      ∃ (K : PySem.W.Frag) (fd : FuncData) (sp : Sp), K.In h ∧ (∀ (s : Shared) (u : Value), BindsTo s fd ⟨[u], []⟩ [(x, u)]) ∧
        (∀ (H : Hp) (a : Addr) (ns : List Int), ns.length ≤ n → (∀ z ∈ ns, Builtin.Int.intBits z ≤ 1048576) → Only H → SqL K H a (ns.map V.int) → sp [.ref a] H (fun v _ => v = .bl true) fun _ _ _ => False) ∧
        ∀ base : Heap, K.In base → base.Ns mainGlobals mg → FnOk l.prog w K mg base CX k fa fd [x] sp)
    (hCX : ∀ (H : Hp) (s : Shared) (e : Value) (s' : Shared), CX [] H s (fun _ _ _ => False) e s' → False) :
    PySem.W.WalkO q loose XP YP l.row.toRowW d [] (fun f vs => PySem.call f vs) := by
  refine Att.attach_callB hn hdf fun w s₀ s₁ mg mb fa o pm cd doc a vs ns G Y ho hd hcd hmg hobj hints hlen hbits hg => ?_
  obtain ⟨K, fd, sp, KX, hb, hsp, hF⟩ := F w mg fa _ Y G.T.g hmg
  exact law_call KX G.T.g G.T.b G.T.builtins G.T.nolimit hg hobj hints (Nat.le_trans hlen hn2) hr hF hb (fun H hO hS => hsp H a ns hlen hbits hO hS) fun H e s' => hCX H s₁ e s'
end L2

set_option Elab.async false
set_option linter.all false
set_option maxRecDepth 100000
set_option maxHeartbeats 4000000
namespace L2
open PySem PySem.Spec PyProof.Rows
open AutoSeq1 (wpAny_loadPart')
theorem tuple_mul1 (l : Addr) (items : Array Value) (n : Nat) (dd : Option Addr) (sl : Array (Option Value)) (u : Tok) :
    Meets (Builtin.«tuple.__mul__» ⟨[.ref l, .int 1 u], []⟩) (fun _ R s => s.heap.get? l = some { cls := .type "tuple", dict := dd, data := .seq items n, slots := sl } ∧
      R (.ok (.ret (Value.ref l))) s) :=
  .of_wp fun prog w A R s h => by
    obtain ⟨hp, g, d, tk, os⟩ := s
    obtain ⟨hl, h⟩ := h
    have f1 := AutoSeq1.idx_int
    wp_walk using wpAny_loadPart' hl
    exact ⟨_, rfl, h⟩
theorem tuple_mul0 (l : Addr) (items : Array Value) (n : Nat) (dd : Option Addr) (sl : Array (Option Value)) (u : Tok) (hi : items.isEmpty = false) :
    Meets (Builtin.«tuple.__mul__» ⟨[.ref l, .int 0 u], []⟩) (fun _ R s => s.heap.get? l = some { cls := .type "tuple", dict := dd, data := .seq items n, slots := sl } ∧
      R (.ok (.ret (Value.ref s.heap.objs.size))) { s with heap := s.heap.push { cls := Value.type "tuple", data := Data.seq #[] } }) :=
  .of_wp fun prog w A R s h => by
    obtain ⟨hp, g, d, tk, os⟩ := s
    obtain ⟨hl, h⟩ := h
    have f1 := AutoSeq1.idx_int
    wp_walk using wpAny_loadPart' hl
    exact ⟨_, rfl, h⟩
def rRepA (K : PySem.W.Frag) : R2 := fun x y H Q => ∃ l k xs, x = .ref l ∧ y = .int k ∧ SqT K H l xs ∧ xs ≠ [] ∧ 0 ≤ k ∧ k ≤ 1000 ∧ xs.length ≤ 1000 ∧ ∀ H' p, Same H H' → SqT K H' p (List.replicate k.toNat xs).flatten → Q (.ref p) H'
theorem same_upd {H : Hp} {p : Addr} {o : HO} (h : H p = none) : Same H (upd H p o) := fun b x e => by
  rw [upd_ne (ne_of_none e h)]
  exact e
theorem op_repA {X : Cx} : OpR X (binaryOp .Mult) (rRepA X.K) := by
  intro pins s σ H x y v u Q I rx ry h
  obtain ⟨l, k, xs, rfl, rfl, hT, hne, h0, h2, hz, q⟩ := h
  by_cases k2 : 2 ≤ k
  · exact op_repT pins s σ H _ _ v u Q I rx ry ⟨l, k, xs, rfl, rfl, hT, hne, k2, h2, hz, fun p hp => q _ p (same_upd hp) (.inl (.inl upd_same))⟩
  cases rx
  obtain ⟨t, rfl⟩ := ry
  obtain ⟨its, r, ⟨⟨cls, dd, data, sl⟩, ho, hc, n, hd⟩, hs⟩ := I.tuple hT
  simp only at hc hd
  subst hc hd
  have hle : its.length = xs.length := r.length.symm
  have hn : its ≠ [] := fun e => hne (by
    rw [e] at hle
    exact List.eq_nil_of_length_eq_zero hle.symm)
  have hi : its.toArray.isEmpty = false := by
    cases its with
    | nil => exact absurd rfl hn
    | cons a b => rfl
  by_cases k1 : k = 1
  · subst k1
    refine wpAny_binaryOp_repeat_ref (T := "tuple") (U := "int") (by decide) ⟨_, ho, rfl⟩ (fun s' => typeIs_int s' 1 t) noFill_tuple_mul F.fills_int_mul F.slot_int_rmul repeat_tuple F.slot_int_index.lookup
      (call_meets F.slot_int_rmul (typeIs_int s 1 t) F.entry_int_rmul (F.args_int_rmul_2 _ _) (int_rmul_tuple 1 t l its.toArray n dd sl)
        ⟨ho, rfl, ⟨_, ho, rfl⟩, call_meets F.slot_tuple_mul ⟨_, ho, rfl⟩ F.entry_tuple_mul (F.args_tuple_mul_2 _ _) (tuple_mul1 l its.toArray n dd sl t) ⟨ho, ?_⟩⟩)
    refine ⟨.ref l, H, I, rfl, q H l (Same.refl H) ?_⟩
    show SqT X.K H l (List.replicate 1 xs).flatten
    simpa using hT
  · have k0 : k = 0 := by omega
    subst k0
    refine wpAny_binaryOp_repeat_ref (T := "tuple") (U := "int") (by decide) ⟨_, ho, rfl⟩ (fun s' => typeIs_int s' 0 t) noFill_tuple_mul F.fills_int_mul F.slot_int_rmul repeat_tuple F.slot_int_index.lookup
      (call_meets F.slot_int_rmul (typeIs_int s 0 t) F.entry_int_rmul (F.args_int_rmul_2 _ _) (int_rmul_tuple 0 t l its.toArray n dd sl)
        ⟨ho, rfl, ⟨_, ho, rfl⟩, call_meets F.slot_tuple_mul ⟨_, ho, rfl⟩ F.entry_tuple_mul (F.args_tuple_mul_2 _ _) (tuple_mul0 l its.toArray n dd sl t hi) ⟨ho, ?_⟩⟩)
    refine ⟨.ref s.heap.objs.size, _, I.laid (t' := s.toks) (o := .tup []) (fun b ob q => Heap.get?_push_of_some _ q) (Nat.le_refl _) ?_, rfl, q _ _ (same_upd (I.hok.fresh (Nat.le_refl _))) (.inl (.inl upd_same))⟩
    exact ⟨Nat.zero_le _, [], .nil, IsTup.new _ _⟩
end L2

set_option Elab.async false
set_option linter.all false
set_option maxRecDepth 100000
set_option maxHeartbeats 4000000
namespace L2
open PySem PySem.Spec PyProof.Rows RZ
/-! ### a list or a tuple -/
def Sq (K : PySem.W.Frag) (H : Hp) (a : Addr) (xs : List V) : Prop := SqL K H a xs ∨ SqT K H a xs
theorem Same.upd {H H1 : Hp} {p : Addr} {o : HO} (s : Same H H1) (h : H1 p = none) : Same H (upd H1 p o) := s.trans (same_upd h)
theorem Same.seqT {K : PySem.W.Frag} {H H' : Hp} {a : Addr} {xs : List V} (e : Same H H') (h : SqT K H a xs) : SqT K H' a xs := by
  rcases h with (h | ⟨o, h⟩) | h
  · exact .inl (.inl (e _ _ h))
  · exact .inl (.inr ⟨o, e _ _ h⟩)
  · exact .inr h
theorem Same.sq {K : PySem.W.Frag} {H H' : Hp} {a : Addr} {xs : List V} (e : Same H H') (h : Sq K H a xs) : Sq K H' a xs := h.imp e.seq e.seqT
/-- but for what stands at l -/
def SameBut (l : Addr) (H H' : Hp) : Prop := ∀ b o, b ≠ l → H b = some o → H' b = some o
theorem SameBut.of_upd {H : Hp} {l : Addr} {o : HO} : SameBut l H (upd H l o) := fun b x n e => by
  rw [upd_ne n]
  exact e
theorem Same.but {H H1 H2 : Hp} {l : Addr} (s : Same H H1) (hl : H l = none) (b : SameBut l H1 H2) : Same H H2 := fun c o e => b c o (ne_of_none e hl) (s c o e)
/-! ### rules whose new things stand in a new heap -/
section
variable {X : Cx}
theorem PE.imp {e : Expr} {t t' : TE} (h : PE X e t) (f : ∀ σ H Q, t' σ H Q → t σ H Q) : PE X e t' := ⟨fun pins s σ H Q I q => h.run pins s σ H Q I (f σ H Q q)⟩
def NewL (xs : List V) (H : Hp) (Q : VK) : Prop := ∀ H' p, Same H H' → H p = none → H' p = some (.lst xs) → Q (.ref p) H'
def NewT (K : PySem.W.Frag) (xs : List V) (H : Hp) (Q : VK) : Prop := ∀ H' p, Same H H' → SqT K H' p xs → Q (.ref p) H'
theorem NewL.go {xs : List V} {H : Hp} {Q : VK} (h : NewL xs H Q) : ∀ p, H p = none → Q (.ref p) (upd H p (.lst xs)) := fun p hp => h _ p (same_upd hp) hp upd_same
theorem NewT.go {K : PySem.W.Frag} {xs : List V} {H : Hp} {Q : VK} (h : NewT K xs H Q) : ∀ p, H p = none → Q (.ref p) (upd H p (.tup xs)) := fun p hp => h _ p (same_upd hp) (.inl (.inl upd_same))
def tLstN (t : TA) : TE := fun σ H Q => t σ H fun xs H1 => xs.length ≤ sizeLine ∧ NewL xs H1 Q
def tTupN (K : PySem.W.Frag) (t : TA) : TE := fun σ H Q => t σ H fun xs H1 => xs.length ≤ sizeLine ∧ NewT K xs H1 Q
def upA (t : TA) : TA := fun σ H Q => ∃ Q0 : List V → Hp → Prop, t σ H Q0 ∧ ∀ xs H, Q0 xs H → Q xs H
theorem PA.up {es : List Expr} {t : TA} (h : PA X es t) : PA X es (upA t) := ⟨fun pos pins s σ H Q I ⟨Q0, q, f⟩ => thn (h.run pos pins s σ H Q0 I q) fun us s1 ⟨vs, H1, I1, r1, q1⟩ => ⟨vs, H1, I1, r1, f _ _ q1⟩⟩
theorem pe_lstN {es : List Expr} {t : TA} {pos : Pos} (h : PA X es t) : PE X (.List es pos) (tLstN t) := (pe_lst h.up).imp fun σ H Q q => ⟨_, q, fun xs H1 z => ⟨z.1, z.2.go⟩⟩
theorem pe_tupN {es : List Expr} {t : TA} {x1} {pos : Pos} (h : PA X es t) : PE X (.Tuple es x1 pos) (tTupN X.K t) := (pe_tup h.up).imp fun σ H Q q => ⟨_, q, fun xs H1 z => ⟨z.1, z.2.go⟩⟩
theorem call_listN : CallR X (.type "list") (fun xs H Q => ∃ p ys, xs = [.ref p] ∧ Sq X.K H p ys ∧ NewL ys H Q) := fun pins s σ H xs us Q I r ⟨p, ys, e, h, q⟩ => call_list_of pins s σ H xs us Q I r ⟨p, ys, e, h, q.go⟩
theorem call_tupleN : CallR X (.type "tuple") (fun xs H Q => ∃ p ys, xs = [.ref p] ∧ Sq X.K H p ys ∧ NewT X.K ys H Q) := fun pins s σ H xs us Q I r ⟨p, ys, e, h, q⟩ => call_tuple_of pins s σ H xs us Q I r ⟨p, ys, e, h.elim (fun h => .inl ⟨h, q.go⟩) fun h => .inr ⟨h, q H p (Same.refl H) h⟩⟩
theorem call_lenN : CallR X (.builtin "len") (fun xs H Q => ∃ p ys, xs = [.ref p] ∧ Sq X.K H p ys ∧ Q (.int ys.length) H) := call_len_seq
theorem cut_all {xs : List V} {lo hi : Option Int} (h : HT.sIx xs.length 0 lo = 0 ∧ HT.sIx xs.length xs.length hi = xs.length) : cutV xs lo hi = xs := by
  unfold cutV
  rw [h.1, h.2]
  simp
/-- a slice of a tuple -/
def rSlT2 (K : PySem.W.Frag) : V → Option Int → Option Int → Hp → VK → Prop := fun x lo hi H Q => ∃ a xs, x = .ref a ∧ SqT K H a xs ∧ NewT K (cutV xs lo hi) H Q
theorem sl_tupN : SlR X (rSlT2 X.K) := by
  intro pins s σ H x v vl vu lo hi sl Q I r1 r2 r3 r4 h
  obtain ⟨a, xs, rfl, hS, q⟩ := h
  refine sl_tupA pins s σ H _ v vl vu lo hi sl Q I r1 r2 r3 r4 ⟨a, xs, rfl, hS, fun hc => ?_, fun _ => q.go⟩
  refine q H a (Same.refl H) ?_
  rw [cut_all hc]
  exact hS
def rSlL2 (K : PySem.W.Frag) : V → Option Int → Option Int → Hp → VK → Prop := fun x lo hi H Q => ∃ a xs, x = .ref a ∧ SqL K H a xs ∧ NewL (cutV xs lo hi) H Q
theorem sl_listN : SlR X (rSlL2 X.K) := fun pins s σ H x v vl vu lo hi sl Q I r1 r2 r3 r4 ⟨a, xs, e, hS, q⟩ => sl_list pins s σ H x v vl vu lo hi sl Q I r1 r2 r3 r4 ⟨a, xs, e, hS, q.go⟩
def rCatN : R2 := fun x y H Q => ∃ l b xs zs, x = .ref l ∧ y = .ref b ∧ H l = some (.lst xs) ∧ H b = some (.lst zs) ∧ xs.length + zs.length ≤ sizeLine ∧ NewL (xs ++ zs) H Q
theorem op_catN : OpR X (binaryOp .Add) rCatN := fun pins s σ H x y v u Q I r1 r2 ⟨l, b, xs, zs, e1, e2, h1, h2, h3, q⟩ => op_cat pins s σ H x y v u Q I r1 r2 ⟨l, b, xs, zs, e1, e2, h1, h2, h3, q.go⟩
def rRepN : R2 := fun x y H Q => ∃ l k xs, x = .ref l ∧ y = .int k ∧ H l = some (.lst xs) ∧ -(2 ^ 63) ≤ k ∧ k < 2 ^ 63 ∧ xs.length * k.toNat ≤ sizeLine ∧ NewL (List.replicate k.toNat xs).flatten H Q
theorem op_repN : OpR X (binaryOp .Mult) rRepN := fun pins s σ H x y v u Q I r1 r2 ⟨l, k, xs, e1, e2, h1, h2, h3, h4, q⟩ => op_rep pins s σ H x y v u Q I r1 r2 ⟨l, k, xs, e1, e2, h1, h2, h3, h4, q.go⟩
def rCatT2 (K : PySem.W.Frag) : R2 := fun x y H Q => ∃ a b xs ys, x = .ref a ∧ y = .ref b ∧ SqT K H a xs ∧ SqT K H b ys ∧ xs.length + ys.length ≤ sizeLine ∧ NewT K (xs ++ ys) H Q
theorem op_catTN : OpR X (binaryOp .Add) (rCatT2 X.K) := fun pins s σ H x y v u Q I r1 r2 ⟨a, b, xs, ys, e1, e2, h1, h2, h3, q⟩ =>
  op_catA pins s σ H x y v u Q I r1 r2 ⟨a, b, xs, ys, e1, e2, h1, h2, h3, (fun e => q H b (Same.refl H) (by rw [e]; exact h2)), (fun _ e => q H a (Same.refl H) (by rw [e, List.append_nil]; exact h1)), fun _ _ => q.go⟩
def rAppendN : V → List V → Hp → VK → Prop := fun x vs H Q => ∃ l xs y, x = .ref l ∧ vs = [y] ∧ H l = some (.lst xs) ∧ xs.length < sizeLine ∧ ∀ H', SameBut l H H' → H' l = some (.lst (xs ++ [y])) → Q .non H'
theorem mt_appendN : MtM X "list.append" rAppendN := fun pins s σ H x vs v us Q I r1 r2 ⟨l, xs, y, e1, e2, h1, h2, q⟩ => mt_append pins s σ H x vs v us Q I r1 r2 ⟨l, xs, y, e1, e2, h1, h2, q _ .of_upd upd_same⟩
theorem cr_rangeN1 : CallR X (.type "range") (fun vs H Q => ∃ j, vs = [V.int j] ∧ ∀ H' p, Same H H' → H' p = some (.rng 0 j) → Q (.ref p) H') := fun pins s σ H vs us Q I r ⟨j, e, q⟩ => cr_range1 pins s σ H vs us Q I r ⟨j, e, fun p hp => q _ p (same_upd hp) upd_same⟩
theorem cr_rangeN2 : CallR X (.type "range") (fun vs H Q => ∃ i j, vs = [V.int i, V.int j] ∧ ∀ H' p, Same H H' → H' p = some (.rng i j) → Q (.ref p) H') := fun pins s σ H vs us Q I r ⟨i, j, e, q⟩ => cr_range2 pins s σ H vs us Q I r ⟨i, j, e, fun p hp => q _ p (same_upd hp) upd_same⟩
/-- xs[i] = v, a list -/
def rSetN : V → V → V → Hp → (Hp → Prop) → Prop := fun o i v H Q => ∃ p xs k j, o = .ref p ∧ i = .int k ∧ H p = some (.lst xs) ∧ ixN xs.length k = some j ∧ ∀ H', SameBut p H H' → H' p = some (.lst (xs.set j v)) → Q H'
/-! ### weaker ends -/
def upE (t : TE) : TE := fun σ H Q => ∃ Q0 : VK, t σ H Q0 ∧ ∀ v H, Q0 v H → Q v H
def upT (t : TT) : TT := fun σ H Q => ∃ Q0 : Bool → Hp → Prop, t σ H Q0 ∧ ∀ v H, Q0 v H → Q v H
def upG (t : TG) : TG := fun v σ H Q => ∃ Q0 : St → Hp → Prop, t v σ H Q0 ∧ ∀ σ H, Q0 σ H → Q σ H
def upI (t : TI) : TI := fun σ H R => ∃ R0 : It → Hp → Prop, t σ H R0 ∧ ∀ J H, R0 J H → R J H
theorem PE.up {e : Expr} {t : TE} (h : PE X e t) : PE X e (upE t) := ⟨fun pins s σ H Q I ⟨Q0, q, f⟩ => thn (h.run pins s σ H Q0 I q) fun us s1 ⟨vs, H1, I1, r1, q1⟩ => ⟨vs, H1, I1, r1, f _ _ q1⟩⟩
theorem PTs.up {e : List Expr} {t : TT} (h : PTs X e t) : PTs X e (upT t) := ⟨fun pins s σ H Q I ⟨Q0, q, f⟩ => thn (h.run pins s σ H Q0 I q) fun us s1 ⟨H1, I1, q1⟩ => ⟨H1, I1, f _ _ q1⟩⟩
theorem PT.up {e : Expr} {t : TT} (h : PT X e t) : PT X e (upT t) := ⟨fun pins s σ H Q I ⟨Q0, q, f⟩ => thn (h.run pins s σ H Q0 I q) fun us s1 ⟨H1, I1, q1⟩ => ⟨H1, I1, f _ _ q1⟩⟩
theorem PG.up {e : Expr} {t : TG} (h : PG X e t) : PG X e (upG t) := ⟨fun pins s σ H v u Q I r ⟨Q0, q, f⟩ => thn (h.run pins s σ H v u Q0 I r q) fun us s1 ⟨σ1, H1, I1, q1⟩ => ⟨σ1, H1, I1, f _ _ q1⟩⟩
theorem PI.up {tg e : Expr} {t : TI} (h : PI X tg e t) : PI X tg e (upI t) := ⟨fun pins s σ H R I ⟨R0, q, f⟩ => thn (h.run pins s σ H R0 I q) fun v s1 z => thn z fun w s2 ⟨it, fp, tn, J, H', e1, e2, e3, e4, e5, e6⟩ => ⟨it, fp, tn, J, H', e1, e2, e3, e4, e5, f _ _ e6⟩⟩
/-! ### [elt for target in iter if ..]: the list so far a letter -/
def tLcN (wi : TI) (g : TG) (tt : TT) (te : TE) (vs : List Nat) : TE := fun σ H Q => wi σ H fun J H1 => ∀ D H1', H1 D = none → Same H1 H1' → H1' D = some (.lst []) → ∃ W : Nat → Nat → List V → Hp → Prop, (∃ m, W 0 m [] H1') ∧ ∀ i m acc H, W i m acc H → H D = some (.lst acc) →
  (J.stop i H ∧ Q (.ref D) H) ∨ (J.go i H ∧ ∃ Nx : List V → Hp → Prop, (∀ acc' H', Nx acc' H' → ∃ m', m' < m ∧ W (i + 1) m' acc' H') ∧ ∀ x H', J.yld i H x H' → g x (wipe σ vs) H' fun σ2 H2 => wipe σ2 vs = wipe σ vs ∧ tt σ2 H2 fun b H3 =>
    if b = true then te σ2 H3 fun y H4 => H4 D = some (.lst acc) ∧ acc.length < sizeLine ∧ ∀ H5, SameBut D H4 H5 → H5 D = some (.lst (acc ++ [y])) → Nx (acc ++ [y]) H5 else H3 D = some (.lst acc) ∧ Nx acc H3)
theorem lc_of {wi : TI} {g : TG} {tt : TT} {te : TE} {vs : List Nat} {σ : St} {H : Hp} {Q : VK} (h : tLcN wi g tt te vs σ H Q) : tLc (upI wi) (upG g) (upT tt) (upE te) vs σ H Q := by
  refine ⟨_, h, fun J H1 q D hD => ?_⟩
  obtain ⟨W, ⟨m, w0⟩, step⟩ := q D _ hD (same_upd hD) upd_same
  refine ⟨fun i m H => ∃ acc, H D = some (.lst acc) ∧ W i m acc H, ⟨m, [], upd_same, w0⟩, ?_⟩
  rintro i m H ⟨acc, eD, w⟩
  rcases step i m acc H w eD with z | ⟨go, Nx, hN, z⟩
  · exact .inl z
  · refine .inr ⟨go, fun H' => ∃ acc, H' D = some (.lst acc) ∧ Nx acc H', ?_, fun x H' y => ⟨_, z x H' y, fun σ2 H2 q2 => ⟨q2.1, _, q2.2, fun b H3 q3 => ?_⟩⟩⟩
    · rintro H' ⟨acc', e', n'⟩
      obtain ⟨m', lt, w'⟩ := hN acc' H' n'
      exact ⟨m', lt, acc', e', w'⟩
    · cases b with
      | true =>
        rw [if_pos rfl] at q3
        rw [if_pos rfl]
        refine ⟨_, q3, fun y H4 ⟨e4, l4, q4⟩ => ⟨acc, e4, l4, acc ++ [y], upd_same, q4 _ .of_upd upd_same⟩⟩
      | false =>
        rw [if_neg Bool.false_ne_true] at q3
        rw [if_neg Bool.false_ne_true]
        exact ⟨acc, q3.1, q3.2⟩
theorem pe_lcN {elt tg iter : Expr} {ifs : List Expr} {scope : Scope} {own : List (Str × Nat)} {pos : Pos} {wi : TI} {g : TG} {tt : TT} {te : TE} (hc : X.calm = true) (hN : X.N.Nodup) (hi : PI X tg iter wi) (ok : BlkOk X.N X.env.scope scope own)
    (hg : ∀ (s : Shared) (H : Hp) (C : Addr) (cl : List (Str × Addr)) (fp : List Addr), PG (X.blk s H scope (compEnvC scope cl C X.env) fp) tg g) (ht : ∀ (s : Shared) (H : Hp) (C : Addr) (cl : List (Str × Addr)) (fp : List Addr), PTs (X.blk s H scope (compEnvC scope cl C X.env) fp) ifs tt)
    (he : ∀ (s : Shared) (H : Hp) (C : Addr) (cl : List (Str × Addr)) (fp : List Addr), PE (X.blk s H scope (compEnvC scope cl C X.env) fp) elt te) (hs : ∀ x, foldedSetIterable iter X.env x = pure x := by intro _; rfl) :
    PE X (.ListComp elt [⟨tg, iter, ifs, 0⟩] scope pos) (tLcN wi g tt te (own.map (·.2))) :=
  (pe_lc hc hN hi.up ok (fun s H C cl fp => (hg s H C cl fp).up) (fun s H C cl fp => (ht s H C cl fp).up) (fun s H C cl fp => (he s H C cl fp).up) hs).imp fun σ H Q q => lc_of q
theorem PS.imp {st : Stmt} {t t' : TS} (h : PS X st t) (f : ∀ D σ H, t' D σ H → t D σ H) : PS X st t' := ⟨fun pins s σ H D I q => h.run pins s σ H D I (f D σ H q)⟩
theorem ps_setLcN {i : Nat} {y : Str} {py : Pos} {elt tg iter : Expr} {ifs : List Expr} {scope : Scope} {own : List (Str × Nat)} {pos spos : Pos} {wi : TI} {g : TG} {tt : TT} {te : TE} (hc : X.calm = true) (hN : X.N.Nodup) (hy : X.N[i]? = some y) (hyl : X.env.scope.names.lookup y = some .local)
    (hsw : swapsWith (.ListComp elt [⟨tg, iter, ifs, 0⟩] scope pos) (some (.Name y py)) spos.line X.env = pure true) (hi : PI X tg iter wi) (ok : BlkOk X.N X.env.scope scope own)
    (hg : ∀ (s : Shared) (H : Hp) (C : Addr) (cl : List (Str × Addr)) (fp : List Addr), PG (X.blk s H scope (compEnvC scope cl C X.env) fp) tg g) (ht : ∀ (s : Shared) (H : Hp) (C : Addr) (cl : List (Str × Addr)) (fp : List Addr), PTs (X.blk s H scope (compEnvC scope cl C X.env) fp) ifs tt)
    (he : ∀ (s : Shared) (H : Hp) (C : Addr) (cl : List (Str × Addr)) (fp : List Addr), PE (X.blk s H scope (compEnvC scope cl C X.env) fp) elt te) (hs : ∀ x, foldedSetIterable iter X.env x = pure x := by intro _; rfl) :
    PS X (.Assign [.Name y py] (.ListComp elt [⟨tg, iter, ifs, 0⟩] scope pos) spos) (tAsg (tLcN wi g tt te (own.map (·.2))) (gName i)) :=
  (ps_setLc hc hN hy hyl hsw hi.up ok (fun s H C cl fp => (hg s H C cl fp).up) (fun s H C cl fp => (ht s H C cl fp).up) (fun s H C cl fp => (he s H C cl fp).up) hs).imp fun D σ H q => lc_of q
/-- walks of a list or a tuple -/
def iSq (K : PySem.W.Frag) (tl : TE) : TI := fun σ H R => tl σ H fun x H1 => ∃ a, x = .ref a ∧ ((∃ xs, SqL K H1 a xs ∧ R (Itl K a) H1) ∨ (∃ xs, SqT K H1 a xs ∧ R (Itt K a) H1))
theorem pi_sq {tg l : Expr} {tl : TE} (hl : PE X l tl) : PI X tg l (iSq X.K tl) := by
  refine ⟨fun pins s σ H R I h => ?_⟩
  refine thn (hl.run pins s σ H _ I h) fun v s1 ⟨x, H1, I1, r1, q1⟩ => ?_
  obtain ⟨a, e, ⟨xs, hq, q⟩ | ⟨xs, hq, q⟩⟩ := q1
  · subst e
    cases r1
    obtain ⟨its, rv, p, hz⟩ := I1.list hq
    refine wpAny_pyIter_list p.isList ?_
    refine ⟨s1.heap.objs.size, [s1.heap.objs.size], _, _, H1, rfl, I1.kept (t' := s1.toks) fun b o e => Heap.get?_push_of_some _ e, turn_list a _, ⟨_, Heap.get?_push_size _ rfl, rfl, rfl⟩, fun b hb => ?_, q⟩
    have e : b = s1.heap.objs.size := by simpa using hb
    subst e
    exact I1.fpOk (Nat.le_refl _) (I1.hok.fresh (Nat.le_refl _))
  · subst e
    cases r1
    obtain ⟨its, rv, p, hz⟩ := I1.tuple hq
    refine wpAny_pyIter_tuple (show s1.heap.IsTuple a its.toArray from p) ?_
    refine ⟨s1.heap.objs.size, [s1.heap.objs.size], _, _, H1, rfl, I1.kept (t' := s1.toks) fun b o e => Heap.get?_push_of_some _ e, turn_tuple a _, ⟨_, Heap.get?_push_size _ rfl, rfl, rfl⟩, fun b hb => ?_, q⟩
    have e : b = s1.heap.objs.size := by simpa using hb
    subst e
    exact I1.fpOk (Nat.le_refl _) (I1.hok.fresh (Nat.le_refl _))
end
/-! ### loops -/
theorem len_big {n : Nat} (h : n ≤ 1000000) : n < sizeLine := Nat.lt_of_le_of_lt h (by decide)
section
variable {K : PySem.W.Frag} {g : TG} {tt : TT} {te : TE} {vs : List Nat} {σ : St} {H1 : Hp} {D a : Addr} {xs ys : List V} {Qd : Hp → Prop}
/-- what a comprehension's reading asks behind its walk J -/
abbrev LcGoal (J : It) (g : TG) (tt : TT) (te : TE) (vs : List Nat) (σ : St) (H1' : Hp) (D : Addr) (Qd : Hp → Prop) : Prop := ∃ W : Nat → Nat → List V → Hp → Prop, (∃ m, W 0 m [] H1') ∧ ∀ i m acc H, W i m acc H → H D = some (.lst acc) →
  (J.stop i H ∧ Qd H) ∨ (J.go i H ∧ ∃ Nx : List V → Hp → Prop, (∀ acc' H', Nx acc' H' → ∃ m', m' < m ∧ W (i + 1) m' acc' H') ∧ ∀ x H', J.yld i H x H' → g x (wipe σ vs) H' fun σ2 H2 => wipe σ2 vs = wipe σ vs ∧ tt σ2 H2 fun b H3 =>
    if b = true then te σ2 H3 fun y H4 => H4 D = some (.lst acc) ∧ acc.length < sizeLine ∧ ∀ H5, SameBut D H4 H5 → H5 D = some (.lst (acc ++ [y])) → Nx (acc ++ [y]) H5 else H3 D = some (.lst acc) ∧ Nx acc H3)
/-- over a range: I of the turn, what is made so far, the heap -/
theorem lcN_range {lo : Int} {n : Nat} (I : Nat → List V → Hp → Prop) (h0 : I 0 [] H1)
    (hs : ∀ i acc H, i < n → I i acc H → H D = some (.lst acc) → g (.int (lo + i)) (wipe σ vs) H fun σ2 H2 => wipe σ2 vs = wipe σ vs ∧ tt σ2 H2 fun b H3 =>
      if b = true then te σ2 H3 fun y H4 => H4 D = some (.lst acc) ∧ acc.length < sizeLine ∧ ∀ H5, SameBut D H4 H5 → H5 D = some (.lst (acc ++ [y])) → I (i + 1) (acc ++ [y]) H5 else H3 D = some (.lst acc) ∧ I (i + 1) acc H3)
    (hd : ∀ acc H, I n acc H → H D = some (.lst acc) → Qd H) : LcGoal (Itr lo n) g tt te vs σ H1 D Qd := by
  refine ⟨fun i m acc H => m = n - i ∧ i ≤ n ∧ I i acc H, ⟨n, by simp, Nat.zero_le _, h0⟩, ?_⟩
  rintro i m acc H ⟨rfl, hi, p⟩ eD
  by_cases hlt : i < n
  · refine .inr ⟨hlt, I (i + 1), fun acc' H' p' => ⟨n - (i + 1), by omega, rfl, hlt, p'⟩, fun x H' y => ?_⟩
    obtain ⟨e, y⟩ := y
    subst e y
    exact hs i acc _ hlt p eD
  · have e : i = n := by omega
    subst e
    exact .inl ⟨Nat.le_refl _, hd acc H p eD⟩
theorem lcN_list (I : Nat → List V → Hp → Prop) (h0 : I 0 [] H1) (hl : ∀ i acc H, i ≤ xs.length → I i acc H → H D = some (.lst acc) → SqL K H a xs)
    (hs : ∀ i x acc H, xs[i]? = some x → I i acc H → H D = some (.lst acc) → g x (wipe σ vs) H fun σ2 H2 => wipe σ2 vs = wipe σ vs ∧ tt σ2 H2 fun b H3 =>
      if b = true then te σ2 H3 fun y H4 => H4 D = some (.lst acc) ∧ acc.length < sizeLine ∧ ∀ H5, SameBut D H4 H5 → H5 D = some (.lst (acc ++ [y])) → I (i + 1) (acc ++ [y]) H5 else H3 D = some (.lst acc) ∧ I (i + 1) acc H3)
    (hd : ∀ acc H, I xs.length acc H → H D = some (.lst acc) → Qd H) : LcGoal (Itl K a) g tt te vs σ H1 D Qd := by
  refine ⟨fun i m acc H => m = xs.length - i ∧ i ≤ xs.length ∧ I i acc H, ⟨xs.length, by simp, Nat.zero_le _, h0⟩, ?_⟩
  rintro i m acc H ⟨rfl, hi, p⟩ eD
  have q := hl i acc H hi p eD
  by_cases hlt : i < xs.length
  · refine .inr ⟨⟨xs, xs[i], q, by simp [hlt]⟩, I (i + 1), fun acc' H' p' => ⟨xs.length - (i + 1), by omega, rfl, hlt, p'⟩, fun x H' y => ?_⟩
    obtain ⟨e, y⟩ := y
    subst e
    exact hs i x acc _ (y xs q) p eD
  · have e : i = xs.length := by omega
    subst e
    exact .inl ⟨⟨xs, q, Nat.le_refl _⟩, hd acc H p eD⟩
theorem lcN_tup (I : Nat → List V → Hp → Prop) (h0 : I 0 [] H1) (hl : ∀ i acc H, i ≤ xs.length → I i acc H → H D = some (.lst acc) → SqT K H a xs)
    (hs : ∀ i x acc H, xs[i]? = some x → I i acc H → H D = some (.lst acc) → g x (wipe σ vs) H fun σ2 H2 => wipe σ2 vs = wipe σ vs ∧ tt σ2 H2 fun b H3 =>
      if b = true then te σ2 H3 fun y H4 => H4 D = some (.lst acc) ∧ acc.length < sizeLine ∧ ∀ H5, SameBut D H4 H5 → H5 D = some (.lst (acc ++ [y])) → I (i + 1) (acc ++ [y]) H5 else H3 D = some (.lst acc) ∧ I (i + 1) acc H3)
    (hd : ∀ acc H, I xs.length acc H → H D = some (.lst acc) → Qd H) : LcGoal (Itt K a) g tt te vs σ H1 D Qd := by
  refine ⟨fun i m acc H => m = xs.length - i ∧ i ≤ xs.length ∧ I i acc H, ⟨xs.length, by simp, Nat.zero_le _, h0⟩, ?_⟩
  rintro i m acc H ⟨rfl, hi, p⟩ eD
  have q := hl i acc H hi p eD
  by_cases hlt : i < xs.length
  · refine .inr ⟨⟨xs, xs[i], q, by simp [hlt]⟩, I (i + 1), fun acc' H' p' => ⟨xs.length - (i + 1), by omega, rfl, hlt, p'⟩, fun x H' y => ?_⟩
    obtain ⟨e, y⟩ := y
    subst e
    exact hs i x acc _ (y xs q) p eD
  · have e : i = xs.length := by omega
    subst e
    exact .inl ⟨⟨xs, q, Nat.le_refl _⟩, hd acc H p eD⟩
/-- over zip of two tuples: the items x, y of each turn; T the pair -/
theorem lcN_zipT {b : Addr} (I : Nat → List V → Hp → Prop) (h0 : I 0 [] H1) (hl : ∀ i acc H, i ≤ min xs.length ys.length → I i acc H → H D = some (.lst acc) → SqT K H a xs ∧ SqT K H b ys)
    (hs : ∀ i x y acc H H2 T, xs[i]? = some x → ys[i]? = some y → I i acc H → H D = some (.lst acc) → Same H H2 → SqT K H2 T [x, y] → g (.ref T) (wipe σ vs) H2 fun σ2 H2 => wipe σ2 vs = wipe σ vs ∧ tt σ2 H2 fun b H3 =>
      if b = true then te σ2 H3 fun y H4 => H4 D = some (.lst acc) ∧ acc.length < sizeLine ∧ ∀ H5, SameBut D H4 H5 → H5 D = some (.lst (acc ++ [y])) → I (i + 1) (acc ++ [y]) H5 else H3 D = some (.lst acc) ∧ I (i + 1) acc H3)
    (hd : ∀ acc H, I (min xs.length ys.length) acc H → H D = some (.lst acc) → Qd H) : LcGoal (ItzT K a b) g tt te vs σ H1 D Qd := by
  refine ⟨fun i m acc H => m = min xs.length ys.length - i ∧ i ≤ min xs.length ys.length ∧ I i acc H, ⟨min xs.length ys.length, by simp, Nat.zero_le _, h0⟩, ?_⟩
  rintro i m acc H ⟨rfl, hi, p⟩ eD
  obtain ⟨q, q'⟩ := hl i acc H hi p eD
  by_cases hlt : i < min xs.length ys.length
  · have h1 : i < xs.length := by omega
    have h2 : i < ys.length := by omega
    refine .inr ⟨⟨xs, ys, xs[i], ys[i], q, q', by simp [h1], by simp [h2]⟩, I (i + 1), fun acc' H' p' => ⟨min xs.length ys.length - (i + 1), by omega, rfl, hlt, p'⟩, fun x H' y => ?_⟩
    obtain ⟨T, x1, x2, rfl, nT, rfl, f1, f2⟩ := y
    exact hs i x1 x2 acc H _ T (f1 _ q) (f2 _ q') p eD (same_upd nT) (.inl (.inl upd_same))
  · have e : i = min xs.length ys.length := by omega
    subst e
    refine .inl ⟨⟨xs, ys, q, q', by omega⟩, hd acc H p eD⟩
end
/-- a pair unpacked into two names -/
theorem g_pair {K : PySem.W.Frag} {i j : Nat} {σ : St} {H : Hp} {T : Addr} {x y : V} {Q : St → Hp → Prop} (hT : SqT K H T [x, y]) (q : Q ((σ.set i (some x)).set j (some y)) H) : gTup K 2 (gCons (gName i) (gCons (gName j) gNil)) (.ref T) σ H Q :=
  ⟨T, [x, y], rfl, hT, rfl, x, [y], rfl, y, [], rfl, rfl, q⟩
/-! ### the same rules, the written part a letter of its own (within a comprehension's block) -/
section
variable {X : Cx} {K : PySem.W.Frag}
theorem ix_listK (hK : X.K = K := by rfl) : IxR X (rIxL K) := hK ▸ ix_list
theorem ix_tupK (hK : X.K = K := by rfl) : IxR X (rIxT K) := hK ▸ ix_tup
theorem sl_listK (hK : X.K = K := by rfl) : SlR X (rSlL2 K) := hK ▸ sl_listN
theorem sl_tupK (hK : X.K = K := by rfl) : SlR X (rSlT2 K) := hK ▸ sl_tupN
def rLenN (K : PySem.W.Frag) : List V → Hp → VK → Prop := fun xs H Q => ∃ p ys, xs = [.ref p] ∧ Sq K H p ys ∧ Q (.int ys.length) H
theorem call_lenK (hK : X.K = K := by rfl) : CallR X (.builtin "len") (rLenN K) := hK ▸ call_lenN
def rListN (K : PySem.W.Frag) : List V → Hp → VK → Prop := fun xs H Q => ∃ p ys, xs = [.ref p] ∧ Sq K H p ys ∧ NewL ys H Q
theorem call_listK (hK : X.K = K := by rfl) : CallR X (.type "list") (rListN K) := hK ▸ call_listN
def rTupleN (K : PySem.W.Frag) : List V → Hp → VK → Prop := fun xs H Q => ∃ p ys, xs = [.ref p] ∧ Sq K H p ys ∧ NewT K ys H Q
theorem call_tupleK (hK : X.K = K := by rfl) : CallR X (.type "tuple") (rTupleN K) := hK ▸ call_tupleN
theorem op_repAK (hK : X.K = K := by rfl) : OpR X (binaryOp .Mult) (rRepA K) := hK ▸ op_repA
theorem op_catTK (hK : X.K = K := by rfl) : OpR X (binaryOp .Add) (rCatT2 K) := hK ▸ op_catTN
theorem op_eqDK (hu : X.A.units + 64 < cLine) (hK : X.K = K := by rfl) : OpR X (compareOp .Eq) (rEqD K) := hK ▸ op_eqD hu
theorem op_neDK (hu : X.A.units + 64 < cLine) (hK : X.K = K := by rfl) : OpR X (compareOp .NotEq) (rNeD K) := hK ▸ op_neD hu
theorem op_inK (hK : X.K = K := by rfl) : OpR X (compareOp .In) (rIn K false) := hK ▸ op_in_seq
theorem op_notInK (hK : X.K = K := by rfl) : OpR X (compareOp .NotIn) (rIn K true) := hK ▸ op_notIn_seq
theorem call_sumK (hc : X.calm = true) (hK : X.K = K := by rfl) : CallR X (.builtin "sum") (rSum K) := hK ▸ cr_sum hc
theorem call_maxK (hc : X.calm = true) (hK : X.K = K := by rfl) : CallR X (.builtin "max") (rMax K) := hK ▸ cr_max hc
theorem call_allK (hc : X.calm = true) (hK : X.K = K := by rfl) : CallR X (.builtin "all") (rAll K) := hK ▸ cr_all hc
theorem call_anyK (hc : X.calm = true) (hK : X.K = K := by rfl) : CallR X (.builtin "any") (rAny K) := hK ▸ cr_any hc
theorem pe_tupK {es : List Expr} {t : TA} {x1} {pos : Pos} (h : PA X es t) (hK : X.K = K := by rfl) : PE X (.Tuple es x1 pos) (tTupN K t) := hK ▸ pe_tupN h
theorem pe_fldK {e : Expr} {f : Str} {pos : Pos} {ta : TE} (he : PE X e ta) (hb : attributeBase e f X.env (eval e X.env) = eval e X.env) (hK : X.K = K := by rfl) : PE X (.Attribute e f pos) (tFld K ta f) := hK ▸ pe_fld he hb
theorem pi_listK {tg l : Expr} {tl : TE} (hl : PE X l tl) (hK : X.K = K := by rfl) : PI X tg l (iList K tl) := hK ▸ pi_list hl
theorem pi_tupK {tg l : Expr} {tl : TE} (hl : PE X l tl) (hK : X.K = K := by rfl) : PI X tg l (iTup K tl) := hK ▸ pi_tup hl
theorem pi_sqK {tg l : Expr} {tl : TE} (hl : PE X l tl) (hK : X.K = K := by rfl) : PI X tg l (iSq K tl) := hK ▸ pi_sq hl
theorem pt_truthK {e : Expr} {te : TE} (he : PE X e te) (hw : ∀ whole, isTrue e X.env whole = (do let v ← whole; standAt e.pos; holding [v] (truthy v))) (hK : X.K = K := by rfl) : PT X e (fun σ H Q => te σ H fun x H' => ∃ k, TruV K x H' k ∧ Q k H') := hK ▸ pt_truth he hw
theorem pg_pair {i j : Nat} {x y : Str} {p1 p2 pos : Pos} {kk : Nat} (hc : X.calm = true) (hN : X.N.Nodup) (hi : X.N[i]? = some x) (hj : X.N[j]? = some y) (hx : Loc X.env.scope x) (hy : Loc X.env.scope y)
    (hf : X.fn x = true ∨ X.env.scope.names.lookup x = some .local := by first | exact .inl rfl | exact .inr rfl | assumption) (hf2 : X.fn y = true ∨ X.env.scope.names.lookup y = some .local := by first | exact .inl rfl | exact .inr rfl | assumption) (hK : X.K = K := by rfl) :
    PG X (.Tuple [.Name x p1, .Name y p2] kk pos) (gTup K 2 (gCons (gName i) (gCons (gName j) gNil))) := hK ▸ pg_tup hc (pgs_cons (pg_name hN hi hx hf) (pgs_cons (pg_name hN hj hy hf2) pgs_nil))
end
section
variable {X : Cx}
/-- an if whose two ways meet again: J holds where they meet -/
def tIfJ (c : TT) (t u : TS) : TS := fun D σ H => ∃ J : L2.St → Hp → Prop, (c σ H fun b H1 => if b = true then t { D with nx := J } σ H1 else u { D with nx := J } σ H1) ∧ ∀ σ' H', J σ' H' → D.nx σ' H'
theorem ps_ifJ {c : Expr} {a b : List Stmt} {pos : Pos} {tc : TT} {t u : TS} (hc : PT X c tc) (ha : PSs X a t) (hb : PSs X b u) : PS X (.If c a b pos) (tIfJ tc t u) := ⟨fun pins s σ H D I ⟨J, h, f⟩ => thn ((ps_if hc ha hb).run pins s σ H { D with nx := J } I h) fun fl s' z => by
  cases fl with
  | next => obtain ⟨σ', H', I', q⟩ := z; exact ⟨σ', H', I', f _ _ q⟩
  | brk => exact z
  | cont => exact z
  | ret v => exact z⟩
end
end L2

set_option Elab.async false
set_option linter.all false
set_option maxRecDepth 100000
set_option maxHeartbeats 4000000
namespace Pl
open PySem PySem.Spec PyProof.Rows L2 RZ
/-! ### the empty tuple of a default -/
def tupB0 (K : PySem.W.Frag) (a : Addr) : Bool := match K.lookup a with
  | some ⟨.type c, _, .seq its _, _⟩ => decide (c = "tuple") && decide (its = #[])
  | _ => false
theorem tupB0_ok {K : PySem.W.Frag} {a : Addr} (h : tupB0 K a = true) (H : Hp) : SqT K H a [] := by
  unfold tupB0 at h
  cases q : K.lookup a with
  | none => rw [q] at h; cases h
  | some o =>
    obtain ⟨oc, od, dt, sl⟩ := o
    rw [q] at h
    cases oc with
    | type c =>
      cases dt with
      | seq its n =>
        have h' : (decide (c = "tuple") && decide (its = #[])) = true := h
        rw [Bool.and_eq_true] at h'
        obtain ⟨h1, h2⟩ := h'
        have e1 := of_decide_eq_true h1
        have e2 := of_decide_eq_true h2
        subst e1 e2
        exact .inr ⟨_, #[], n, q, rfl, rfl, Nat.zero_le _, .nil⟩
      | _ => cases h
    | _ => cases dt <;> cases h
/-! ### what stands still while the pen is used -/
def PenSh (o : HO) : Prop := ∃ c i x k, o = .lst [.ref c, .int i, .int x, .int k]
def Keep (H H' : Hp) : Prop := ∀ b o, H b = some o → ¬ PenSh o → H' b = some o
theorem keep_of {H H' : Hp} (s : Same H H') : Keep H H' := fun b o e _ => s b o e
theorem Keep.trans {H H1 H2 : Hp} (a : Keep H H1) (b : Keep H1 H2) : Keep H H2 := fun c o e n => b c o (a c o e n) n
theorem Keep.refl (H : Hp) : Keep H H := fun _ _ e _ => e
theorem Keep.seqT {K : PySem.W.Frag} {H H' : Hp} {a : Addr} {xs : List V} (e : Keep H H') (h : SqT K H a xs) : SqT K H' a xs := by
  rcases h with (h | ⟨o, h⟩) | h
  · exact .inl (.inl (e _ _ h (by rintro ⟨_, _, _, _, z⟩; cases z)))
  · exact .inl (.inr ⟨o, e _ _ h (by rintro ⟨_, _, _, _, z⟩; cases z)⟩)
  · exact .inr h
/-- a list that is no pen -/
def NoPen (xs : List V) : Prop := ∀ c i x k, xs ≠ [.ref c, .int i, .int x, .int k]
theorem noPen_ints (ns : List Int) : NoPen (ns.map V.int) := by
  intro c i x k e
  cases ns with
  | nil => cases e
  | cons a r => cases e
theorem noPen_refs (ns : List Addr) : NoPen (ns.map V.ref) := by
  intro c i x k e
  cases ns with
  | nil => cases e
  | cons a r =>
    cases r with
    | nil => cases e
    | cons b r => cases e
theorem Keep.lst {H H' : Hp} {a : Addr} {xs : List V} (e : Keep H H') (n : NoPen xs) (h : H a = some (.lst xs)) : H' a = some (.lst xs) := e _ _ h (by
  rintro ⟨c, i, x, k, z⟩
  injection z with z
  exact n c i x k z)
theorem Keep.seqL {K : PySem.W.Frag} {H H' : Hp} {a : Addr} {xs : List V} (e : Keep H H') (n : NoPen xs) (h : SqL K H a xs) : SqL K H' a xs := by
  rcases h with (h | ⟨o, h⟩) | h
  · exact .inl (.inl (e.lst n h))
  · exact .inl (.inr ⟨o, e _ _ h (by rintro ⟨_, _, _, _, z⟩; cases z)⟩)
  · exact .inr h
theorem Keep.ins {H H' : Hp} {a C dx : Addr} {fs : List (Str × V)} (e : Keep H H') (h : H a = some (.ins C dx fs)) : H' a = some (.ins C dx fs) := e _ _ h (by rintro ⟨_, _, _, _, z⟩; cases z)
theorem Keep.but {H H1 H2 : Hp} {l : Addr} (s : Keep H H1) (hl : H l = none) (b : SameBut l H1 H2) : Keep H H2 := fun c o e n => b c o (ne_of_none e hl) (s c o e n)
/-! ### the pen: a list of the numbers, the next one's place, the number that is drawn from, a count -/
def Pn (H : Hp) (pen c : Addr) (n : Nat) : Prop := ∃ (zs : List Int) (i x k : Int), H pen = some (.lst [.ref c, .int i, .int x, .int k]) ∧ H c = some (.lst (zs.map V.int)) ∧ zs.length ≤ 63 ∧ 1 ≤ i ∧ 0 ≤ k ∧ k ≤ (n : Int)
theorem Pn.mono {H : Hp} {pen c : Addr} {n m : Nat} (h : Pn H pen c n) (l : n ≤ m) : Pn H pen c m := by
  obtain ⟨zs, i, x, k, h1, h2, h3, h4, h5, h6⟩ := h
  exact ⟨zs, i, x, k, h1, h2, h3, h4, h5, by omega⟩
theorem Pn.same {H H' : Hp} {pen c : Addr} {n : Nat} (s : Same H H') (h : Pn H pen c n) : Pn H' pen c n := by
  obtain ⟨zs, i, x, k, h1, h2, h3⟩ := h
  exact ⟨zs, i, x, k, s _ _ h1, s _ _ h2, h3⟩
/-- D new behind H0, where the pen stood -/
theorem Pn.but {H0 H H' : Hp} {pen c D : Addr} {n m : Nat} (h0 : Pn H0 pen c m) (hD : H0 D = none) (b : SameBut D H H') (h : Pn H pen c n) : Pn H' pen c n := by
  obtain ⟨zs, i, x, k, h1, h2, h3⟩ := h
  obtain ⟨_, _, _, _, g1, g2, _⟩ := h0
  exact ⟨zs, i, x, k, b _ _ (ne_of_none g1 hD) h1, b _ _ (ne_of_none g2 hD) h2, h3⟩
/-! ### rows -/
def RowF (t : Addr) : List (Str × V) := [("entries", .ref t)]
def RowAt (K : PySem.W.Frag) (H : Hp) (p : Addr) (ns : List Int) : Prop := ∃ dx t, H p = some (.ins (He.ga K "Row") dx (RowF t)) ∧ SqT K H t (ns.map V.int)
theorem RowAt.same {K : PySem.W.Frag} {H H' : Hp} {p : Addr} {ns : List Int} (s : Same H H') (h : RowAt K H p ns) : RowAt K H' p ns := by
  obtain ⟨dx, t, h1, h2⟩ := h
  exact ⟨dx, t, s _ _ h1, s.seqT h2⟩
theorem RowAt.keep {K : PySem.W.Frag} {H H' : Hp} {p : Addr} {ns : List Int} (s : Keep H H') (h : RowAt K H p ns) : RowAt K H' p ns := by
  obtain ⟨dx, t, h1, h2⟩ := h
  exact ⟨dx, t, s.ins h1, s.seqT h2⟩
/-! ### without the zeros at the end -/
def stpN (xs : List Int) : Nat → Nat
  | 0 => 0
  | n + 1 => if xs.getD n 0 = 0 then stpN xs n else n + 1
def stp (xs : List Int) : List Int := xs.take (stpN xs xs.length)
theorem stpN_le (xs : List Int) : ∀ n, stpN xs n ≤ n
  | 0 => Nat.le_refl _
  | n + 1 => by
    unfold stpN
    split
    · exact Nat.le_succ_of_le (stpN_le xs n)
    · exact Nat.le_refl _
theorem stpN_zero (xs : List Int) : ∀ n i, stpN xs n ≤ i → i < n → xs.getD i 0 = 0
  | 0, i, _, h => absurd h (Nat.not_lt_zero _)
  | n + 1, i, h1, h2 => by
    unfold stpN at h1
    split at h1
    · rename_i z
      by_cases e : i = n
      · rw [e]; exact z
      · exact stpN_zero xs n i h1 (by omega)
    · omega
theorem stp_length (xs : List Int) : (stp xs).length ≤ xs.length := by
  unfold stp
  rw [List.length_take]
  exact Nat.min_le_right _ _
theorem stp_get (xs : List Int) (i : Nat) : (stp xs).getD i 0 = xs.getD i 0 := by
  unfold stp
  by_cases h : i < stpN xs xs.length
  · rw [List.getD_eq_getElem?_getD, List.getD_eq_getElem?_getD, List.getElem?_take, if_pos h]
  · have e : (xs.take (stpN xs xs.length)).getD i 0 = 0 := by
      rw [List.getD_eq_getElem?_getD, List.getElem?_take, if_neg h] <;> rfl
    rw [e]
    by_cases h2 : i < xs.length
    · exact (stpN_zero xs _ i (by omega) h2).symm
    · rw [List.getD_eq_getElem?_getD, List.getElem?_eq_none (by omega)] <;> rfl
/-! ### carries -/
/-- the carry into lane n: (entry + carry) / B, from 0 on -/
def car (xs : List Int) (w : Nat) : Nat → Int
  | 0 => 0
  | n + 1 => (xs.getD n 0 + car xs w n) / 2 ^ w
theorem car_congr {xs ys : List Int} (w : Nat) (h : ∀ i, xs.getD i 0 = ys.getD i 0) : ∀ n, car xs w n = car ys w n
  | 0 => rfl
  | n + 1 => by
    unfold car
    rw [h n, car_congr w h n]
theorem car_stp (xs : List Int) (w n : Nat) : car (stp xs) w n = car xs w n := car_congr w (stp_get xs) n
theorem car_far (xs : List Int) (w n : Nat) : ∀ m, xs.length ≤ n → car xs w (n + m) = car xs w n / 2 ^ (w * m)
  | 0, _ => by
    rw [Nat.mul_zero]
    show car xs w n = car xs w n / 1
    omega
  | m + 1, h => by
    have ih := car_far xs w n m h
    show (xs.getD (n + m) 0 + car xs w (n + m)) / 2 ^ w = _
    have e : xs.getD (n + m) 0 = 0 := by
      rw [List.getD_eq_getElem?_getD, List.getElem?_eq_none (by omega)] <;> rfl
    have hp : (0 : Int) < 2 ^ (w * m) := Int.pow_pos (by decide)
    rw [e, ih, Int.zero_add, Int.ediv_ediv, if_neg (fun z => by omega), Int.sub_zero, ← Int.pow_add, Nat.mul_succ]
theorem rowF_look (t : Addr) : (RowF t).lookup ("entries" : Str) = some (.ref t) := by simp [RowF, List.lookup]
theorem stpN_stop {xs : List Int} {k : Nat} (h : k = 0 ∨ xs.getD (k - 1) 0 ≠ 0) : stpN xs k = k := by
  cases k with
  | zero => rfl
  | succ n =>
    have h2 : xs.getD n 0 ≠ 0 := h.resolve_left (by omega)
    unfold stpN
    rw [if_neg h2]
/-! ### items, slices -/
theorem map_get {xs : List Int} {i : Nat} {x : V} (h : (xs.map V.int)[i]? = some x) : ∃ u, xs[i]? = some u ∧ x = .int u := by
  rw [List.getElem?_map] at h
  cases e : xs[i]? with
  | none => rw [e] at h; cases h
  | some u => rw [e] at h; exact ⟨u, rfl, (Option.some.inj h).symm⟩
theorem map_getR {xs : List Addr} {i : Nat} {x : V} (h : (xs.map V.ref)[i]? = some x) : ∃ u, xs[i]? = some u ∧ x = .ref u := by
  rw [List.getElem?_map] at h
  cases e : xs[i]? with
  | none => rw [e] at h; cases h
  | some u => rw [e] at h; exact ⟨u, rfl, (Option.some.inj h).symm⟩
theorem at_ints {xs : List Int} {z : Int} {n : Nat} (e : z = (n : Int)) (h : n < xs.length) : atI (xs.map V.int) z = some (.int (xs.getD n 0)) := by
  refine at_of e ?_
  rw [List.getElem?_map, List.getD_eq_getElem?_getD, List.getElem?_eq_getElem h] <;> rfl
theorem cut_to (xs : List V) (k : Nat) : cutV xs none (some (k : Int)) = xs.take k := by
  unfold cutV
  rw [HT.sIx_nat, HT.sIx_none, List.drop_zero, Nat.sub_zero]
  by_cases h : k ≤ xs.length
  · rw [Nat.min_eq_left h]
  · rw [Nat.min_eq_right (by omega), List.take_of_length_le (Nat.le_refl _), List.take_of_length_le (by omega)]
theorem cut_from (xs : List V) (k : Nat) : cutV xs (some (k : Int)) none = xs.drop k := by
  unfold cutV
  rw [HT.sIx_nat, HT.sIx_none]
  by_cases h : k ≤ xs.length
  · rw [Nat.min_eq_left h, List.take_of_length_le (by rw [List.length_drop]; omega)]
  · rw [Nat.min_eq_right (by omega), Nat.sub_self, List.take_zero, List.drop_of_length_le (by omega)]
theorem iteB {c : Prop} [Decidable c] {A B : Prop} (h1 : c → A) (h2 : ¬ c → B) : if decide c = true then A else B := by
  by_cases h : c
  · rw [decide_eq_true h, if_pos rfl]
    exact h1 h
  · rw [decide_eq_false h, if_neg Bool.false_ne_true]
    exact h2 h
/-! ### sums of rows -/
def addL (xs ys : List Int) : List Int := List.zipWith (· + ·) xs ys ++ xs.drop ys.length ++ ys.drop xs.length
theorem addL_length (xs ys : List Int) : (addL xs ys).length = max xs.length ys.length := by
  unfold addL
  rw [List.length_append, List.length_append, List.length_zipWith, List.length_drop, List.length_drop]
  omega
theorem addL_get (xs ys : List Int) (i : Nat) : (addL xs ys).getD i 0 = xs.getD i 0 + ys.getD i 0 := by
  unfold addL
  simp only [List.getD_eq_getElem?_getD]
  by_cases h1 : i < xs.length <;> by_cases h2 : i < ys.length
  · rw [List.append_assoc, List.getElem?_append_left (by rw [List.length_zipWith]; omega), List.getElem?_zipWith, List.getElem?_eq_getElem h1, List.getElem?_eq_getElem h2] <;> rfl
  · rw [List.append_assoc, List.getElem?_append_right (by rw [List.length_zipWith]; omega), List.length_zipWith, List.getElem?_append_left (by rw [List.length_drop]; omega), List.getElem?_drop,
      show ys.length + (i - min xs.length ys.length) = i by omega, List.getElem?_eq_getElem h1, List.getElem?_eq_none (show ys.length ≤ i by omega)]
    show _ = _ + 0
    rw [Int.add_zero]
  · rw [List.getElem?_append_right (by rw [List.length_append, List.length_zipWith, List.length_drop]; omega), List.length_append, List.length_zipWith, List.length_drop, List.getElem?_drop,
      show xs.length + (i - (min xs.length ys.length + (xs.length - ys.length))) = i by omega, List.getElem?_eq_getElem h2, List.getElem?_eq_none (show xs.length ≤ i by omega)]
    show _ = 0 + _
    rw [Int.zero_add]
  · rw [List.getElem?_eq_none (by rw [List.length_append, List.length_append, List.length_zipWith, List.length_drop, List.length_drop]; omega), List.getElem?_eq_none (show xs.length ≤ i by omega), List.getElem?_eq_none (show ys.length ≤ i by omega)] <;> rfl
theorem take_snoc {α : Type} {l : List α} {i : Nat} {x : α} (h : l[i]? = some x) : l.take (i + 1) = l.take i ++ [x] := by
  rw [List.take_add_one, h] <;> rfl
theorem small {n : Nat} (h : n ≤ 1000000) : n ≤ sizeLine := Nat.le_of_lt (len_big h)
theorem yesT {σ : L2.St} {H : Hp} {F G : Hp → Prop} (h : F H) : tYes σ H (fun b H3 => if b = true then F H3 else G H3) := by
  show (if true = true then F H else G H)
  rw [if_pos rfl]
  exact h
theorem rep0 (n : Nat) : (List.replicate n [V.int 0]).flatten = (List.replicate n (0 : Int)).map V.int := by
  rw [List.map_replicate]
  induction n with
  | zero => rfl
  | succ k ih =>
    rw [List.replicate_succ, List.replicate_succ, List.flatten_cons, ih]
    rfl
/-! ### comparisons of rows of ints -/
theorem dpAll_ints {K : PySem.W.Frag} {H : Hp} : ∀ ns : List Int, DpAll K H (ns.map V.int) (ns.map PyData.int)
  | [] => .nil
  | a :: r => .cons (.int a) (dpAll_ints r)
theorem dp_list {K : PySem.W.Frag} {H : Hp} {a : Addr} {ns : List Int} (h : SqL K H a (ns.map V.int)) : Dp K H (.ref a) (.list (ns.map PyData.int)) := .lst h (dpAll_ints ns)
theorem dp_tup {K : PySem.W.Frag} {H : Hp} {a : Addr} {ns : List Int} (h : SqT K H a (ns.map V.int)) : Dp K H (.ref a) (.tuple (ns.map PyData.int)) := .tup h (dpAll_ints ns)
theorem sh_list (ns : List Int) : SeqAt.shaped (.list (ns.map PyData.int)) = true := PySem.W.ke_shaped_ints ns
theorem sh_tup (ns : List Int) : SeqAt.shaped (.tuple (ns.map PyData.int)) = true := by
  have h := PySem.W.ke_shaped_ints ns
  unfold SeqAt.shaped at h ⊢
  simpa [PyData.canLay0, PyData.depth] using h
theorem eqv_list (ns ms : List Int) : PyData.eqv (.list (ns.map PyData.int)) (.list (ms.map PyData.int)) = decide (ns = ms) := by
  simp only [PyData.eqv]
  exact PySem.W.ked_eqvAll ns ms
theorem eqv_tup (ns ms : List Int) : PyData.eqv (.tuple (ns.map PyData.int)) (.tuple (ms.map PyData.int)) = decide (ns = ms) := by
  simp only [PyData.eqv]
  exact PySem.W.ked_eqvAll ns ms
/-! ### several rows at once -/
def LsAt (R : Addr → List Int → Prop) (as : List Addr) (xss : List (List Int)) : Prop := as.length = xss.length ∧ ∀ (i : Nat) (a : Addr) (xs : List Int), as[i]? = some a → xss[i]? = some xs → R a xs
theorem LsAt.nil {R : Addr → List Int → Prop} : LsAt R [] [] := ⟨rfl, fun i a xs h => by simp at h⟩
theorem LsAt.snoc {R : Addr → List Int → Prop} {as : List Addr} {xss : List (List Int)} {a : Addr} {xs : List Int} (h : LsAt R as xss) (r : R a xs) : LsAt R (as ++ [a]) (xss ++ [xs]) := by
  refine ⟨by rw [List.length_append, List.length_append, h.1] <;> rfl, fun i b ys e1 e2 => ?_⟩
  by_cases l : i < as.length
  · rw [List.getElem?_append_left l] at e1
    rw [List.getElem?_append_left (by rw [← h.1]; exact l)] at e2
    exact h.2 i b ys e1 e2
  · rw [List.getElem?_append_right (by omega)] at e1
    rw [List.getElem?_append_right (by rw [← h.1]; omega), ← h.1] at e2
    cases q : i - as.length with
    | zero =>
      rw [q] at e1 e2
      cases e1
      cases e2
      exact r
    | succ k =>
      rw [q] at e1
      simp at e1
theorem LsAt.mono {R R' : Addr → List Int → Prop} {as : List Addr} {xss : List (List Int)} (h : LsAt R as xss) (f : ∀ a xs, R a xs → R' a xs) : LsAt R' as xss := ⟨h.1, fun i a xs e1 e2 => f a xs (h.2 i a xs e1 e2)⟩
theorem LsAt.get {R : Addr → List Int → Prop} {as : List Addr} {xss : List (List Int)} {i : Nat} {a : Addr} (h : LsAt R as xss) (e : as[i]? = some a) : ∃ xs, xss[i]? = some xs ∧ R a xs := by
  have l : i < xss.length := by
    rw [← h.1]
    exact (List.getElem?_eq_some_iff.mp e).1
  exact ⟨xss[i], List.getElem?_eq_getElem l, h.2 i a _ e (List.getElem?_eq_getElem l)⟩
theorem at_mem {α : Type} {l : List α} {d : Int} (h0 : 0 ≤ d) (h1 : d < l.length) : ∃ v, atI l d = some v ∧ v ∈ l := by
  have h2 : d.toNat < l.length := by omega
  refine ⟨l[d.toNat], ?_, List.getElem_mem h2⟩
  unfold atI ixN
  rw [if_pos h0, if_pos h1]
  show l[d.toNat]? = _
  exact List.getElem?_eq_getElem h2
theorem at_refs {as : List Addr} {z : Int} {n : Nat} {u : Addr} (e : z = (n : Int)) (h : as[n]? = some u) : atI (as.map V.ref) z = some (.ref u) := by
  refine at_of e ?_
  rw [List.getElem?_map, h] <;> rfl
theorem RowAt.but {K : PySem.W.Frag} {H H' : Hp} {p E : Addr} {ns : List Int} {l : List V} (h : RowAt K H p ns) (hE : H E = some (.lst l)) (b : SameBut E H H') : RowAt K H' p ns := by
  obtain ⟨dx, t, h1, h2⟩ := h
  refine ⟨dx, t, b _ _ (ne_of h1 hE (by intro z; cases z)) h1, ?_⟩
  rcases h2 with (h2 | ⟨o, h2⟩) | h2
  · exact .inl (.inl (b _ _ (ne_of h2 hE (by intro z; cases z)) h2))
  · exact .inl (.inr ⟨o, b _ _ (ne_of h2 hE (by intro z; cases z)) h2⟩)
  · exact .inr h2
theorem rowF_none (t : Addr) {m : Str} (h : (m == ("entries" : Str)) = false) : (RowF t).lookup m = none := by
  unfold RowF
  rw [List.lookup_cons, h]
  rfl
theorem LsAt.lens {R : Addr → List Int → Prop} {as : List Addr} {xss : List (List Int)} {k : Nat} (h : LsAt R as xss) (f : ∀ a xs, R a xs → xs.length ≤ k) {i : Nat} {xs : List Int} (e : xss[i]? = some xs) : xs.length ≤ k := by
  have l : i < as.length := by
    rw [h.1]
    exact (List.getElem?_eq_some_iff.mp e).1
  exact f _ _ (h.2 i _ xs (List.getElem?_eq_getElem l) e)
end Pl

set_option Elab.async false
set_option linter.all false
set_option maxRecDepth 100000
set_option maxHeartbeats 4000000
namespace Pl
/-! ### the number of a row -/
theorem pw (w : Nat) : (0 : Int) < 2 ^ w := Int.pow_pos (by decide)
def val : List Int → Nat → Int
  | [], _ => 0
  | x :: r, w => x + 2 ^ w * val r w
theorem val_append (w : Nat) : ∀ xs ys : List Int, val (xs ++ ys) w = val xs w + 2 ^ (w * xs.length) * val ys w
  | [], ys => by simp [val]
  | x :: r, ys => by
    show x + 2 ^ w * val (r ++ ys) w = x + 2 ^ w * val r w + 2 ^ (w * (r.length + 1)) * val ys w
    rw [val_append w r ys, Int.mul_add, Nat.mul_succ, Nat.add_comm (w * r.length) w, Int.pow_add, Int.mul_assoc, Int.add_assoc]
theorem val_zero (w : Nat) : ∀ n : Nat, val (List.replicate n 0) w = 0
  | 0 => rfl
  | n + 1 => by
    rw [List.replicate_succ]
    show 0 + 2 ^ w * val (List.replicate n 0) w = 0
    rw [val_zero w n, Int.mul_zero, Int.add_zero]
/-- equal lane by lane: one number -/
theorem val_congr (w : Nat) : ∀ (n : Nat) (xs ys : List Int), xs.length ≤ n → ys.length ≤ n → (∀ i, xs.getD i 0 = ys.getD i 0) → val xs w = val ys w
  | 0, xs, ys, h1, h2, _ => by
    rw [List.eq_nil_of_length_eq_zero (Nat.le_zero.mp h1), List.eq_nil_of_length_eq_zero (Nat.le_zero.mp h2)]
  | n + 1, xs, ys, h1, h2, h => by
    have key : ∀ zs : List Int, val zs w = zs.getD 0 0 + 2 ^ w * val zs.tail w := fun zs => by
      cases zs with
      | nil => simp [val]
      | cons a r => rfl
    rw [key xs, key ys, h 0, val_congr w n xs.tail ys.tail (by rw [List.length_tail]; omega) (by rw [List.length_tail]; omega) fun i => ?_]
    have e : ∀ zs : List Int, zs.tail.getD i 0 = zs.getD (i + 1) 0 := fun zs => by cases zs <;> simp
    rw [e, e]
    exact h (i + 1)
theorem val_stp (xs : List Int) (w : Nat) : val (stp xs) w = val xs w := val_congr w (xs.length) _ _ (stp_length xs) (Nat.le_refl _) (stp_get xs)
/-! ### neighbours joined in pairs -/
def comb (w : Nat) : List Int → List Int
  | a :: b :: r => (a + b * 2 ^ w) :: comb w r
  | xs => xs
theorem val_comb (w : Nat) : ∀ xs : List Int, xs.length % 2 = 0 → val (comb w xs) (w + w) = val xs w
  | [], _ => rfl
  | [a], h => by simp at h
  | a :: b :: r, h => by
    have ih := val_comb w r (by have h' : (r.length + 1 + 1) % 2 = 0 := h; omega)
    show a + b * 2 ^ w + 2 ^ (w + w) * val (comb w r) (w + w) = a + 2 ^ w * (b + 2 ^ w * val r w)
    rw [ih, Int.pow_add, Int.mul_add, Int.mul_comm b, Int.mul_assoc, Int.add_assoc]
theorem comb_length (w : Nat) : ∀ xs : List Int, xs.length % 2 = 0 → (comb w xs).length = xs.length / 2
  | [], _ => rfl
  | [a], h => by simp at h
  | a :: b :: r, h => by
    show (comb w r).length + 1 = (r.length + 2) / 2
    rw [comb_length w r (by have h' : (r.length + 1 + 1) % 2 = 0 := h; omega)]
    omega
def evens {α : Type} : List α → List α
  | a :: _ :: r => a :: evens r
  | xs => xs
def odds {α : Type} : List α → List α
  | _ :: b :: r => b :: odds r
  | _ => []
theorem comb_zip (w : Nat) : ∀ xs : List Int, xs.length % 2 = 0 → comb w xs = List.zipWith (fun a b => a + b * 2 ^ w) (evens xs) (odds xs)
  | [], _ => rfl
  | [a], h => by simp at h
  | a :: b :: r, h => by
    show _ :: comb w r = _ :: List.zipWith _ (evens r) (odds r)
    rw [comb_zip w r (by have h' : (r.length + 1 + 1) % 2 = 0 := h; omega)]
theorem evens_map {α β : Type} (f : α → β) : ∀ xs : List α, evens (xs.map f) = (evens xs).map f
  | [] => rfl
  | [a] => rfl
  | a :: b :: r => by
    show f a :: evens (r.map f) = f a :: (evens r).map f
    rw [evens_map f r]
theorem odds_map {α β : Type} (f : α → β) : ∀ xs : List α, odds (xs.map f) = (odds xs).map f
  | [] => rfl
  | [a] => rfl
  | a :: b :: r => by
    show f b :: odds (r.map f) = f b :: (odds r).map f
    rw [odds_map f r]
theorem evens_length {α : Type} : ∀ xs : List α, (evens xs).length = (xs.length + 1) / 2
  | [] => by simp [evens]
  | [a] => by simp [evens]
  | a :: b :: r => by
    show (evens r).length + 1 = (r.length + 2 + 1) / 2
    rw [evens_length r]
    omega
theorem odds_length {α : Type} : ∀ xs : List α, (odds xs).length = xs.length / 2
  | [] => by simp [odds]
  | [a] => by simp [odds]
  | a :: b :: r => by
    show (odds r).length + 1 = (r.length + 2) / 2
    rw [odds_length r]
    omega
theorem evens_get {α : Type} : ∀ (xs : List α) (i : Nat), (evens xs)[i]? = xs[2 * i]?
  | [], i => by simp [evens]
  | [a], i => by
    cases i with
    | zero => rfl
    | succ i =>
      show ([a] : List α)[i + 1]? = [a][2 * (i + 1)]?
      rw [List.getElem?_eq_none (by simp), List.getElem?_eq_none (by simp; omega)]
  | a :: b :: r, 0 => rfl
  | a :: b :: r, i + 1 => by
    show (evens r)[i]? = (a :: b :: r)[2 * i + 2]?
    rw [evens_get r i]
    rfl
theorem odds_get {α : Type} : ∀ (xs : List α) (i : Nat), (odds xs)[i]? = xs[2 * i + 1]?
  | [], i => by simp [odds]
  | [a], i => by simp [odds]
  | a :: b :: r, 0 => rfl
  | a :: b :: r, i + 1 => by
    show (odds r)[i]? = (a :: b :: r)[2 * i + 3]?
    rw [odds_get r i]
    rfl
/-! ### sizes -/
theorem natAbs_mul_pow (x : Int) (w : Nat) : (x * 2 ^ w).natAbs = x.natAbs * 2 ^ w := by
  rw [Int.natAbs_mul, Int.natAbs_pow]
  rfl
theorem small_comb {a b : Int} {m w : Nat} (hw : 1 ≤ w) (ha : a.natAbs < 2 ^ (m + 2 * w)) (hb : b.natAbs < 2 ^ (m + 2 * w)) : (a + b * 2 ^ w).natAbs < 2 ^ (m + 2 * (w + w)) := by
  have h1 : (a + b * 2 ^ w).natAbs ≤ a.natAbs + b.natAbs * 2 ^ w := by
    rw [← natAbs_mul_pow]
    exact Int.natAbs_add_le _ _
  have h2 : b.natAbs * 2 ^ w ≤ (2 ^ (m + 2 * w) - 1) * 2 ^ w := Nat.mul_le_mul_right _ (by omega)
  have e1 : 2 ^ (m + 2 * w) * 2 ^ w = 2 ^ (m + 3 * w) := by rw [← Nat.pow_add]; congr 1; omega
  have e2 : (2 ^ (m + 2 * w) - 1) * 2 ^ w = 2 ^ (m + 3 * w) - 2 ^ w := by rw [Nat.sub_mul, e1, Nat.one_mul]
  have h3 : 2 ^ (m + 2 * w) ≤ 2 ^ (m + 3 * w) := Nat.pow_le_pow_right (by decide) (by omega)
  have h4 : 2 * 2 ^ (m + 3 * w) ≤ 2 ^ (m + 2 * (w + w)) := by
    rw [show 2 * 2 ^ (m + 3 * w) = 2 ^ (m + 3 * w + 1) by rw [Nat.pow_succ]; omega]
    exact Nat.pow_le_pow_right (by decide) (by omega)
  have h5 : 0 < 2 ^ w := Nat.pow_pos (by decide)
  omega
theorem comb_small {m w : Nat} (hw : 1 ≤ w) : ∀ xs : List Int, (∀ x ∈ xs, x.natAbs < 2 ^ (m + 2 * w)) → ∀ x ∈ comb w xs, x.natAbs < 2 ^ (m + 2 * (w + w))
  | [], _, x, h => by simp [comb] at h
  | [a], hs, x, h => by
    have e : x = a := by simpa [comb] using h
    subst e
    exact Nat.lt_of_lt_of_le (hs x List.mem_cons_self) (Nat.pow_le_pow_right (by decide) (by omega))
  | a :: b :: r, hs, x, h => by
    have h' : x ∈ (a + b * 2 ^ w) :: comb w r := h
    rcases List.mem_cons.mp h' with e | e
    · subst e
      exact small_comb hw (hs a (by simp)) (hs b (by simp))
    · exact comb_small hw r (fun y hy => hs y (by simp [hy])) x e
theorem val_small {m w : Nat} : ∀ xs : List Int, (∀ x ∈ xs, x.natAbs < 2 ^ m) → (val xs w).natAbs < 2 ^ (m + (w + 1) * xs.length)
  | [], _ => by
    show 0 < _
    exact Nat.pow_pos (by decide)
  | x :: r, h => by
    have ih := val_small (w := w) r fun y hy => h y (List.mem_cons_of_mem _ hy)
    have hx := h x List.mem_cons_self
    have h1 : (val (x :: r) w).natAbs ≤ x.natAbs + (val r w).natAbs * 2 ^ w := by
      rw [← natAbs_mul_pow, Int.mul_comm]
      exact Int.natAbs_add_le _ _
    have h2 : (val r w).natAbs * 2 ^ w < 2 ^ (m + (w + 1) * r.length) * 2 ^ w := Nat.mul_lt_mul_of_pos_right ih (Nat.pow_pos (by decide))
    have e1 : 2 ^ (m + (w + 1) * r.length) * 2 ^ w = 2 ^ (m + (w + 1) * r.length + w) := by rw [← Nat.pow_add]
    have h3 : 2 ^ m ≤ 2 ^ (m + (w + 1) * r.length + w) := Nat.pow_le_pow_right (by decide) (by omega)
    have e2 : 2 ^ (m + (w + 1) * (x :: r).length) = 2 * 2 ^ (m + (w + 1) * r.length + w) := by
      rw [List.length_cons, Nat.mul_succ, ← Nat.add_assoc, ← Nat.add_assoc, Nat.pow_succ]
      omega
    rw [e2]
    omega
/-! ### digits from 0 up -/
def dig (n : Int) (w i : Nat) : Int := n / 2 ^ (w * i) % 2 ^ w
def digL (n : Int) (w c : Nat) : List Int := (List.range c).map (dig n w)
theorem digL_length (n : Int) (w c : Nat) : (digL n w c).length = c := by simp [digL]
theorem ediv_pow (n : Int) (a b : Nat) : n / 2 ^ a / 2 ^ b = n / 2 ^ (a + b) := by
  rw [Int.ediv_ediv, if_neg (fun z => by have := pw a; omega), Int.sub_zero, ← Int.pow_add]
theorem emod_low (n : Int) (a b : Nat) : n % 2 ^ (a + b) % 2 ^ a = n % 2 ^ a := Int.emod_emod_of_dvd n ⟨2 ^ b, by rw [Int.pow_add]⟩
theorem emod_high (n : Int) (a b : Nat) : n % 2 ^ (a + b) / 2 ^ a = n / 2 ^ a % 2 ^ b := by
  have ha := pw a
  have hb := pw b
  have d1 := Int.emod_add_mul_ediv n (2 ^ a)
  have d2 := Int.emod_add_mul_ediv (n / 2 ^ a) (2 ^ b)
  have d3 := Int.emod_add_mul_ediv n (2 ^ (a + b))
  have e : n / 2 ^ (a + b) = n / 2 ^ a / 2 ^ b := (ediv_pow n a b).symm
  have m0 := Int.emod_nonneg n (show (2 : Int) ^ a ≠ 0 by omega)
  have m1 := Int.emod_lt_of_pos n ha
  have key : n % 2 ^ (a + b) = n % 2 ^ a + 2 ^ a * (n / 2 ^ a % 2 ^ b) := by
    rw [e, Int.pow_add] at d3
    rw [Int.mul_assoc] at d3
    have : (2 : Int) ^ a * (n / 2 ^ a) = 2 ^ a * (n / 2 ^ a % 2 ^ b) + 2 ^ a * (2 ^ b * (n / 2 ^ a / 2 ^ b)) := by rw [← Int.mul_add, d2]
    rw [Int.pow_add]
    omega
  rw [key, Int.add_mul_ediv_left _ _ (show (2 : Int) ^ a ≠ 0 by omega), Int.ediv_eq_zero_of_lt m0 m1, Int.zero_add]
/-- the blocks of L lanes of the lowest m L lanes -/
def blocks (n : Int) (w L m : Nat) : List Int := (List.range m).map fun j => n / 2 ^ (w * (L * j)) % 2 ^ (w * L)
theorem blocks_one (n : Int) (w m : Nat) : blocks n w 1 m = digL n w m := by
  unfold blocks digL
  refine List.map_congr_left fun j _ => ?_
  rw [Nat.one_mul, Nat.mul_one]
  rfl
theorem block_low (n : Int) (w L j : Nat) : (n / 2 ^ (w * (2 * L * j)) % 2 ^ (w * (2 * L))) % 2 ^ (L * w) = n / 2 ^ (w * (L * (2 * j))) % 2 ^ (w * L) := by
  rw [show w * (2 * L) = L * w + L * w by rw [Nat.mul_comm w, Nat.mul_assoc, Nat.two_mul], emod_low, Nat.mul_comm L w, show 2 * L * j = L * (2 * j) by rw [Nat.mul_comm 2 L, Nat.mul_assoc]]
theorem block_high (n : Int) (w L j : Nat) : (n / 2 ^ (w * (2 * L * j)) % 2 ^ (w * (2 * L))) / 2 ^ (L * w) = n / 2 ^ (w * (L * (2 * j + 1))) % 2 ^ (w * L) := by
  rw [show w * (2 * L) = L * w + L * w by rw [Nat.mul_comm w, Nat.mul_assoc, Nat.two_mul], emod_high, ediv_pow, Nat.mul_comm L w, show w * (2 * L * j) + w * L = w * (L * (2 * j + 1)) by rw [← Nat.mul_add, Nat.mul_add L, Nat.mul_one, Nat.mul_comm 2 L, Nat.mul_assoc]]
theorem digL_take (n : Int) (w : Nat) {c d : Nat} (h : c ≤ d) : (digL n w d).take c = digL n w c := by
  unfold digL
  rw [← List.map_take, List.take_range, Nat.min_eq_left h]
end Pl

set_option Elab.async false
set_option linter.all false
set_option maxRecDepth 100000
set_option maxHeartbeats 4000000
namespace L2
open PySem PySem.Spec PyProof.Rows RZ
/-! ### xs[lo::k], k written -/
def pickV (xs : List V) (lo : Option Int) (k : Int) : List V := (sliceRange (sliceBounds lo none (some k) xs.length).1 (sliceBounds lo none (some k) xs.length).2.1 (sliceBounds lo none (some k) xs.length).2.2).filterMap (xs[·]?)
theorem vals_pick {xs : List V} {its : List Value} (r : Vals xs its) : ∀ ids : List Nat, Vals (ids.filterMap (xs[·]?)) (ids.filterMap (its[·]?))
  | [] => .nil
  | i :: ids => by
    have ih := vals_pick r ids
    cases e : xs[i]? with
    | none =>
      have e2 := Vals.none_of r e
      rw [List.filterMap_cons_none e, List.filterMap_cons_none e2]
      exact ih
    | some x =>
      obtain ⟨u, e2, ru⟩ := r.get e
      rw [List.filterMap_cons_some e, List.filterMap_cons_some e2]
      exact .cons ru ih
section
variable {X : Cx} {K : PySem.W.Frag}
def tSlStep (K : PySem.W.Frag) (te : TE) (tl : TO) (k : Int) : TE := fun σ H Q => te σ H fun x H1 => tl σ H1 fun lo H2 => ∃ a xs, x = .ref a ∧ SqL K H2 a xs ∧ NewL (pickV xs lo k) H2 Q
theorem PO.upO {o : Option Expr} {t : TO} (h : PO X o t) : PO X o (fun σ H Q => ∃ Q0 : Option Int → Hp → Prop, t σ H Q0 ∧ ∀ i H, Q0 i H → Q i H) :=
  ⟨fun pins s σ H Q I ⟨Q0, q, f⟩ => thn (h.run pins s σ H Q0 I q) fun v s1 ⟨i, H1, I1, r1, q1⟩ => ⟨i, H1, I1, r1, f _ _ q1⟩⟩
theorem pe_slStep {e : Expr} {lo : Option Expr} {te : TE} {tl : TO} {j : Int} {k : Nat} {p1 p3 pos : Pos} (he : PE X e te) (hl : PO X lo tl) (hj : j ≠ 0) (hK : X.K = K := by rfl) :
    PE X (.Subscript e (.Slice lo none (some (.Constant (.int j) k p1)) p3) pos) (tSlStep K te tl j) := by
  subst hK
  refine ⟨fun pins s σ H Q I h => ?_⟩
  refine Subscript_ (thn (he.run pins s σ H _ I h) fun v s1 ⟨x, H1, I1, r1, q1⟩ => ?_)
  have hst : PO X (some (.Constant (.int j) k p1)) (tPart (tC (.int j))) := po_some pe_int
  refine wpAny_Slice (thn (hl.run pins s1 σ H1 _ I1 q1) fun vl s2 ⟨l, H2, I2, pl, q2⟩ => ?_)
  obtain ⟨a, xs, ex, hx, q⟩ := q2
  subst ex
  cases r1
  refine thn (po_none.run pins s2 σ H2 (fun o H3 => o = none ∧ H3 = H2) I2 ⟨rfl, rfl⟩) fun vu s3 ⟨u, H3, I3, pu, eu, e3⟩ => ?_
  subst eu e3
  refine thn (hst.run pins s3 σ H3 (fun o H4 => o = some j ∧ H4 = H3) I3 ⟨j, rfl, rfl, rfl⟩) fun vs s4 ⟨o, H4, I4, ps, eo, e4⟩ => ?_
  subst eo e4
  have I5 : Inv X pins σ H4 { s4 with heap := s4.heap.push { cls := .type "slice", data := .fields #[vl, vu, vs] } } := I4.kept (t' := s4.toks) fun b ob q => Heap.get?_push_of_some _ q
  obtain ⟨its, r, ht, hz⟩ := I5.list hx
  have hlen := r.length
  show wpAny (model X.prog X.w) X.A (subscriptTail e (.Slice lo none (some (.Constant (.int j) k p1)) p3) (.ref a) (.ref s4.heap.objs.size)) (EP X pins σ Q) X.xe { s4 with heap := s4.heap.push { cls := .type "slice", data := .fields #[vl, vu, vs] } }
  refine tail_any (ops := [.ref a, .ref s4.heap.objs.size]) ht.isList.typeIs (PySem.slot_list_getitem.lookup) ?_ (by with_unfolding_all rfl)
  refine wpAny_getItem_list_slice ht.isList (Heap.IsSliceOf.new _ vl vu vs) pl pu ps (by simpa using hj) ?_ (by rw [List.size_toArray]; omega)
  have e : slicePick its.toArray l none (some j) = ((sliceRange (sliceBounds l none (some j) xs.length).1 (sliceBounds l none (some j) xs.length).2.1 (sliceBounds l none (some j) xs.length).2.2).filterMap (its[·]?)).toArray := by
    unfold slicePick
    rw [List.size_toArray, ← hlen]
    simp
  have hle : (slicePick its.toArray l none (some j)).size ≤ its.toArray.size := slicePick_size_le _ _ _ _
  rw [e] at hle ⊢
  have vp := vals_pick r (sliceRange (sliceBounds l none (some j) xs.length).1 (sliceBounds l none (some j) xs.length).2.1 (sliceBounds l none (some j) xs.length).2.2)
  refine ⟨.ref _, _, I5.laid (t' := s4.toks) (o := .lst (pickV xs l j)) (fun b ob q => Heap.get?_push_of_some _ q) (Nat.le_refl _) ?_, rfl, q.go _ (I5.hok.fresh (Nat.le_refl _))⟩
  refine ⟨?_, _, 0, vp, Heap.get?_push_size _ rfl⟩
  have h2 : (pickV xs l j).length = _ := vp.length
  rw [h2]
  rw [List.size_toArray, List.size_toArray] at hle
  omega
end
theorem filterMap_all {α : Type} (f : Nat → Option α) : ∀ (c : Nat), (∀ i, i < c → (f i).isSome = true) → ((List.range c).filterMap f).length = c ∧ ∀ i, ((List.range c).filterMap f)[i]? = if i < c then f i else none
  | 0, _ => ⟨rfl, fun i => by simp⟩
  | c + 1, h => by
    obtain ⟨l, g⟩ := filterMap_all f c fun i hi => h i (by omega)
    obtain ⟨x, hx⟩ := Option.isSome_iff_exists.mp (h c (by omega))
    rw [List.range_succ, List.filterMap_append, List.filterMap_cons_some hx, List.filterMap_nil]
    refine ⟨by rw [List.length_append, l]; rfl, fun i => ?_⟩
    by_cases hi : i < c
    · rw [List.getElem?_append_left (by omega), g i, if_pos hi, if_pos (by omega)]
    · rw [List.getElem?_append_right (by omega), l]
      by_cases he : i = c
      · subst he
        rw [Nat.sub_self, if_pos (by omega), hx]
        rfl
      · rw [if_neg (by omega), List.getElem?_eq_none (by simp; omega)]
theorem pick_by (xs : List V) (f : Nat → Nat) (c : Nat) (h : ∀ i, i < c → f i < xs.length) : ∀ i : Nat, (((List.range c).map f).filterMap (xs[·]?))[i]? = if i < c then xs[f i]? else none := fun i => by
  rw [List.filterMap_map]
  exact (filterMap_all (fun i => xs[f i]?) c fun i hi => by simp [h i hi]).2 i
theorem pick_evens (xs : List V) : pickV xs none 2 = Pl.evens xs := by
  have e : pickV xs none 2 = ((List.range ((xs.length + 1) / 2)).map fun i => 2 * i).filterMap (xs[·]?) := by
    unfold pickV sliceBounds sliceRange
    simp only [Option.getD_some, Option.getD_none, show (2 : Int) > 0 by decide, if_true]
    congr 1
    cases hn : xs.length with
    | zero => simp
    | succ n =>
      rw [if_pos (by omega)]
      congr 1
      · funext i
        omega
      · congr 1
        omega
  rw [e]
  refine List.ext_getElem? fun i => ?_
  rw [pick_by xs (fun i => 2 * i) _ (fun i hi => by omega), Pl.evens_get]
  split
  · rfl
  · rw [List.getElem?_eq_none (by omega)]
theorem pick_odds (xs : List V) : pickV xs (some 1) 2 = Pl.odds xs := by
  have e : pickV xs (some 1) 2 = ((List.range (xs.length / 2)).map fun i => 2 * i + 1).filterMap (xs[·]?) := by
    unfold pickV sliceBounds sliceRange
    simp only [Option.getD_some, Option.getD_none, show (2 : Int) > 0 by decide, if_true]
    congr 1
    cases hn : xs.length with
    | zero =>
      simp <;> decide
    | succ n =>
      have e1 : max (0 : Int) (min (if (1 : Int) < 0 then 1 + ((n + 1 : Nat) : Int) else 1) ((n + 1 : Nat) : Int)) = 1 := by
        rw [if_neg (by decide)]
        omega
      rw [e1]
      congr 1
      · funext i
        omega
      · congr 1
        split <;> omega
  rw [e]
  refine List.ext_getElem? fun i => ?_
  rw [pick_by xs (fun i => 2 * i + 1) _ (fun i hi => by omega), Pl.odds_get]
  split
  · rfl
  · rw [List.getElem?_eq_none (by omega)]
/-! ### zip of two lists -/
section
variable {K : PySem.W.Frag} {g : TG} {tt : TT} {te : TE} {vs : List Nat} {σ : L2.St} {H1 : Hp} {D a : Addr} {xs ys : List V} {Qd : Hp → Prop}
theorem lcN_zipL {b : Addr} (I : Nat → List V → Hp → Prop) (h0 : I 0 [] H1) (hl : ∀ i acc H, i ≤ min xs.length ys.length → I i acc H → H D = some (.lst acc) → SqL K H a xs ∧ SqL K H b ys)
    (hs : ∀ i x y acc H H2 T, xs[i]? = some x → ys[i]? = some y → I i acc H → H D = some (.lst acc) → Same H H2 → SqT K H2 T [x, y] → g (.ref T) (wipe σ vs) H2 fun σ2 H2 => wipe σ2 vs = wipe σ vs ∧ tt σ2 H2 fun b H3 =>
      if b = true then te σ2 H3 fun y H4 => H4 D = some (.lst acc) ∧ acc.length < sizeLine ∧ ∀ H5, SameBut D H4 H5 → H5 D = some (.lst (acc ++ [y])) → I (i + 1) (acc ++ [y]) H5 else H3 D = some (.lst acc) ∧ I (i + 1) acc H3)
    (hd : ∀ acc H, I (min xs.length ys.length) acc H → H D = some (.lst acc) → Qd H) : LcGoal (Itz K a b) g tt te vs σ H1 D Qd := by
  refine ⟨fun i m acc H => m = min xs.length ys.length - i ∧ i ≤ min xs.length ys.length ∧ I i acc H, ⟨min xs.length ys.length, by simp, Nat.zero_le _, h0⟩, ?_⟩
  rintro i m acc H ⟨rfl, hi, p⟩ eD
  obtain ⟨q, q'⟩ := hl i acc H hi p eD
  by_cases hlt : i < min xs.length ys.length
  · have h1 : i < xs.length := by omega
    have h2 : i < ys.length := by omega
    refine .inr ⟨⟨xs, ys, xs[i], ys[i], q, q', by simp [h1], by simp [h2]⟩, I (i + 1), fun acc' H' p' => ⟨min xs.length ys.length - (i + 1), by omega, rfl, hlt, p'⟩, fun x H' y => ?_⟩
    obtain ⟨T, x1, x2, rfl, nT, rfl, f1, f2⟩ := y
    exact hs i x1 x2 acc H _ T (f1 _ q) (f2 _ q') p eD (same_upd nT) (.inl (.inl upd_same))
  · have e : i = min xs.length ys.length := by omega
    subst e
    refine .inl ⟨⟨xs, ys, q, q', by omega⟩, hd acc H p eD⟩
end
/-! ### [e for a in xs for b in ys] -/
/-- what the inner walk's reading asks: Nx behind it -/
def InGoal (J1 : It) (g1 : TG) (tt1 : TT) (te : TE) (vs1 : List Nat) (σ2 : L2.St) (H4 : Hp) (D : Addr) (Nx : List V → Hp → Prop) : Prop := ∃ W1 : Nat → Nat → List V → Hp → Prop, (∃ m acc, H4 D = some (.lst acc) ∧ W1 0 m acc H4) ∧ ∀ j k acc H, W1 j k acc H → H D = some (.lst acc) →
  (J1.stop j H ∧ Nx acc H) ∨ (J1.go j H ∧ ∃ Nx1 : List V → Hp → Prop, (∀ acc' H', Nx1 acc' H' → ∃ k', k' < k ∧ W1 (j + 1) k' acc' H') ∧ ∀ x H', J1.yld j H x H' → g1 x (wipe σ2 vs1) H' fun σ3 H5 => wipe σ3 vs1 = wipe σ2 vs1 ∧ tt1 σ3 H5 fun b H6 =>
    if b = true then te σ3 H6 fun y H7 => H7 D = some (.lst acc) ∧ acc.length < sizeLine ∧ ∀ H8, SameBut D H7 H8 → H8 D = some (.lst (acc ++ [y])) → Nx1 (acc ++ [y]) H8 else H6 D = some (.lst acc) ∧ Nx1 acc H6)
def tLc2N (wi : TI) (g : TG) (tt : TT) (wi1 : TI) (g1 : TG) (tt1 : TT) (te : TE) (vs vs1 : List Nat) : TE := fun σ H Q => wi σ H fun J H1 => ∀ D H1', H1 D = none → Same H1 H1' → H1' D = some (.lst []) → ∃ W : Nat → Nat → List V → Hp → Prop, (∃ m, W 0 m [] H1') ∧ ∀ i m acc H, W i m acc H → H D = some (.lst acc) →
  (J.stop i H ∧ Q (.ref D) H) ∨ (J.go i H ∧ ∃ Nx : List V → Hp → Prop, (∀ acc' H', Nx acc' H' → ∃ m', m' < m ∧ W (i + 1) m' acc' H') ∧ ∀ x H', J.yld i H x H' → g x (wipe σ vs) H' fun σ2 H2 => wipe σ2 vs = wipe σ vs ∧ tt σ2 H2 fun b H3 =>
    if b = true then wi1 σ2 H3 fun J1 H4 => InGoal J1 g1 tt1 te vs1 σ2 H4 D Nx else H3 D = some (.lst acc) ∧ Nx acc H3)
theorem lc2_of {wi wi1 : TI} {g g1 : TG} {tt tt1 : TT} {te : TE} {vs vs1 : List Nat} {σ : L2.St} {H : Hp} {Q : VK} (h : tLc2N wi g tt wi1 g1 tt1 te vs vs1 σ H Q) : tLc2 (upI wi) (upG g) (upT tt) (upI wi1) (upG g1) (upT tt1) (upE te) vs vs1 σ H Q := by
  refine ⟨_, h, fun J H1 q D hD => ?_⟩
  obtain ⟨W, ⟨m, w0⟩, step⟩ := q D _ hD (same_upd hD) upd_same
  refine ⟨fun i m H => ∃ acc, H D = some (.lst acc) ∧ W i m acc H, ⟨m, [], upd_same, w0⟩, ?_⟩
  rintro i m H ⟨acc, eD, w⟩
  rcases step i m acc H w eD with z | ⟨go, Nx, hN, z⟩
  · exact .inl z
  · refine .inr ⟨go, fun H' => ∃ acc, H' D = some (.lst acc) ∧ Nx acc H', ?_, fun x H' y => ⟨_, z x H' y, fun σ2 H2 q2 => ⟨q2.1, _, q2.2, fun b H3 q3 => ?_⟩⟩⟩
    · rintro H' ⟨acc', e', n'⟩
      obtain ⟨m', lt, w'⟩ := hN acc' H' n'
      exact ⟨m', lt, acc', e', w'⟩
    · cases b with
      | true =>
        rw [if_pos rfl] at q3
        rw [if_pos rfl]
        refine ⟨_, q3, fun J1 H4 q4 => ?_⟩
        obtain ⟨W1, ⟨m1, acc1, e1, w1⟩, step1⟩ := q4
        refine ⟨fun i m H => ∃ acc, H D = some (.lst acc) ∧ W1 i m acc H, ⟨m1, acc1, e1, w1⟩, ?_⟩
        rintro j k H ⟨acc2, eD2, w2⟩
        rcases step1 j k acc2 H w2 eD2 with z2 | ⟨go2, Nx2, hN2, z2⟩
        · exact .inl ⟨z2.1, acc2, eD2, z2.2⟩
        · refine .inr ⟨go2, fun H' => ∃ acc, H' D = some (.lst acc) ∧ Nx2 acc H', ?_, fun x H' y => ⟨_, z2 x H' y, fun σ3 H5 q5 => ⟨q5.1, _, q5.2, fun b H6 q6 => ?_⟩⟩⟩
          · rintro H' ⟨acc', e', n'⟩
            obtain ⟨m', lt, w'⟩ := hN2 acc' H' n'
            exact ⟨m', lt, acc', e', w'⟩
          · cases b with
            | true =>
              rw [if_pos rfl] at q6
              rw [if_pos rfl]
              exact ⟨_, q6, fun y H7 ⟨e7, l7, q7⟩ => ⟨acc2, e7, l7, acc2 ++ [y], upd_same, q7 _ .of_upd upd_same⟩⟩
            | false =>
              rw [if_neg Bool.false_ne_true] at q6
              rw [if_neg Bool.false_ne_true]
              exact ⟨acc2, q6.1, q6.2⟩
      | false =>
        rw [if_neg Bool.false_ne_true] at q3
        rw [if_neg Bool.false_ne_true]
        exact ⟨acc, q3.1, q3.2⟩
section
variable {X : Cx}
theorem ps_setLc2N {i : Nat} {y : Str} {py : Pos} {elt tg iter tg1 iter1 : Expr} {ifs ifs1 : List Expr} {scope : Scope} {own : List (Str × Nat)} {vs1 : List Nat} {pos spos : Pos} {wi wi1 : TI} {g g1 : TG} {tt tt1 : TT} {te : TE} (hc : X.calm = true) (hN : X.N.Nodup) (hy : X.N[i]? = some y) (hyl : X.env.scope.names.lookup y = some .local)
    (hsw : swapsWith (.ListComp elt [⟨tg, iter, ifs, 0⟩, ⟨tg1, iter1, ifs1, 0⟩] scope pos) (some (.Name y py)) spos.line X.env = pure true) (hi : PI X tg iter wi) (ok : BlkOk X.N X.env.scope scope own) (hv : ∀ i ∈ vs1, i ∈ own.map (·.2))
    (hg : ∀ (s : Shared) (H : Hp) (C : Addr) (cl : List (Str × Addr)) (fp : List Addr), PG (X.blk s H scope (compEnvC scope cl C X.env) fp) tg g) (ht : ∀ (s : Shared) (H : Hp) (C : Addr) (cl : List (Str × Addr)) (fp : List Addr), PTs (X.blk s H scope (compEnvC scope cl C X.env) fp) ifs tt)
    (hi1 : ∀ (s : Shared) (H : Hp) (C : Addr) (cl : List (Str × Addr)) (fp : List Addr), PI (X.blk s H scope (compEnvC scope cl C X.env) fp) tg1 iter1 wi1)
    (hg1 : ∀ (s : Shared) (H : Hp) (C : Addr) (cl : List (Str × Addr)) (fp : List Addr), PG (X.blk s H scope (compEnvC scope cl C X.env) fp) tg1 g1) (ht1 : ∀ (s : Shared) (H : Hp) (C : Addr) (cl : List (Str × Addr)) (fp : List Addr), PTs (X.blk s H scope (compEnvC scope cl C X.env) fp) ifs1 tt1)
    (he : ∀ (s : Shared) (H : Hp) (C : Addr) (cl : List (Str × Addr)) (fp : List Addr), PE (X.blk s H scope (compEnvC scope cl C X.env) fp) elt te) (hs : ∀ x, foldedSetIterable iter X.env x = pure x := by intro _; rfl) (hs1 : ∀ env x, foldedSetIterable iter1 env x = pure x := by intro _ _; rfl) :
    PS X (.Assign [.Name y py] (.ListComp elt [⟨tg, iter, ifs, 0⟩, ⟨tg1, iter1, ifs1, 0⟩] scope pos) spos) (tAsg (tLc2N wi g tt wi1 g1 tt1 te (own.map (·.2)) vs1) (gName i)) :=
  (ps_setLc2 hc hN hy hyl hsw hi.up ok hv (fun s H C cl fp => (hg s H C cl fp).up) (fun s H C cl fp => (ht s H C cl fp).up) (fun s H C cl fp => (hi1 s H C cl fp).up) (fun s H C cl fp => (hg1 s H C cl fp).up) (fun s H C cl fp => (ht1 s H C cl fp).up) (fun s H C cl fp => (he s H C cl fp).up) hs hs1).imp fun D σ H q => lc2_of q
end
/-- an outer walk of a list -/
theorem lc2N_list {K : PySem.W.Frag} {g g1 : TG} {tt tt1 : TT} {te : TE} {wi1 : TI} {vs vs1 : List Nat} {σ : L2.St} {H1 : Hp} {D a : Addr} {xs : List V} {Qd : Hp → Prop} (I : Nat → List V → Hp → Prop) (h0 : I 0 [] H1) (hl : ∀ i acc H, i ≤ xs.length → I i acc H → H D = some (.lst acc) → SqL K H a xs)
    (hs : ∀ i x acc H, xs[i]? = some x → I i acc H → H D = some (.lst acc) → g x (wipe σ vs) H fun σ2 H2 => wipe σ2 vs = wipe σ vs ∧ tt σ2 H2 fun b H3 => if b = true then wi1 σ2 H3 fun J1 H4 => InGoal J1 g1 tt1 te vs1 σ2 H4 D (I (i + 1)) else H3 D = some (.lst acc) ∧ I (i + 1) acc H3)
    (hd : ∀ acc H, I xs.length acc H → H D = some (.lst acc) → Qd H) :
    ∃ W : Nat → Nat → List V → Hp → Prop, (∃ m, W 0 m [] H1) ∧ ∀ i m acc H, W i m acc H → H D = some (.lst acc) → ((Itl K a).stop i H ∧ Qd H) ∨ ((Itl K a).go i H ∧ ∃ Nx : List V → Hp → Prop, (∀ acc' H', Nx acc' H' → ∃ m', m' < m ∧ W (i + 1) m' acc' H') ∧ ∀ x H', (Itl K a).yld i H x H' → g x (wipe σ vs) H' fun σ2 H2 => wipe σ2 vs = wipe σ vs ∧ tt σ2 H2 fun b H3 =>
      if b = true then wi1 σ2 H3 fun J1 H4 => InGoal J1 g1 tt1 te vs1 σ2 H4 D Nx else H3 D = some (.lst acc) ∧ Nx acc H3) := by
  refine ⟨fun i m acc H => m = xs.length - i ∧ i ≤ xs.length ∧ I i acc H, ⟨xs.length, by simp, Nat.zero_le _, h0⟩, ?_⟩
  rintro i m acc H ⟨rfl, hi, p⟩ eD
  have q := hl i acc H hi p eD
  by_cases hlt : i < xs.length
  · refine .inr ⟨⟨xs, xs[i], q, by simp [hlt]⟩, I (i + 1), fun acc' H' p' => ⟨xs.length - (i + 1), by omega, rfl, hlt, p'⟩, fun x H' y => ?_⟩
    obtain ⟨e, y⟩ := y
    subst e
    exact hs i x acc _ (y xs q) p eD
  · have e : i = xs.length := by omega
    subst e
    exact .inl ⟨⟨xs, q, Nat.le_refl _⟩, hd acc H p eD⟩
/-- an inner walk of a tuple -/
theorem in_tup {K : PySem.W.Frag} {g1 : TG} {tt1 : TT} {te : TE} {vs1 : List Nat} {σ2 : L2.St} {H4 : Hp} {D a : Addr} {xs acc0 : List V} {Nx : List V → Hp → Prop} (I : Nat → List V → Hp → Prop) (hD : H4 D = some (.lst acc0)) (h0 : I 0 acc0 H4) (hl : ∀ i acc H, i ≤ xs.length → I i acc H → H D = some (.lst acc) → SqT K H a xs)
    (hs : ∀ i x acc H, xs[i]? = some x → I i acc H → H D = some (.lst acc) → g1 x (wipe σ2 vs1) H fun σ3 H5 => wipe σ3 vs1 = wipe σ2 vs1 ∧ tt1 σ3 H5 fun b H6 =>
      if b = true then te σ3 H6 fun y H7 => H7 D = some (.lst acc) ∧ acc.length < sizeLine ∧ ∀ H8, SameBut D H7 H8 → H8 D = some (.lst (acc ++ [y])) → I (i + 1) (acc ++ [y]) H8 else H6 D = some (.lst acc) ∧ I (i + 1) acc H6)
    (hd : ∀ acc H, I xs.length acc H → H D = some (.lst acc) → Nx acc H) : InGoal (Itt K a) g1 tt1 te vs1 σ2 H4 D Nx := by
  refine ⟨fun i m acc H => m = xs.length - i ∧ i ≤ xs.length ∧ I i acc H, ⟨xs.length, acc0, hD, by simp, Nat.zero_le _, h0⟩, ?_⟩
  rintro i m acc H ⟨rfl, hi, p⟩ eD
  have q := hl i acc H hi p eD
  by_cases hlt : i < xs.length
  · refine .inr ⟨⟨xs, xs[i], q, by simp [hlt]⟩, I (i + 1), fun acc' H' p' => ⟨xs.length - (i + 1), by omega, rfl, hlt, p'⟩, fun x H' y => ?_⟩
    obtain ⟨e, y⟩ := y
    subst e
    exact hs i x acc _ (y xs q) p eD
  · have e : i = xs.length := by omega
    subst e
    exact .inl ⟨⟨xs, q, Nat.le_refl _⟩, hd acc H p eD⟩
section
variable {X : Cx}
/-- a if c else b, where both ways meet -/
def tIfEJ (t : TT) (ta tb : TE) : TE := fun σ H Q => ∃ J : V → Hp → Prop, (t σ H fun c H1 => if c = true then ta σ H1 J else tb σ H1 J) ∧ ∀ v H', J v H' → Q v H'
theorem pe_ifExpJ {c a b : Expr} {pos : Pos} {tA : TT} {ta tb : TE} (hc : PT X c tA) (ha : PE X a ta) (hb : PE X b tb) : PE X (.IfExp c a b pos) (tIfEJ tA ta tb) := ⟨fun pins s σ H Q I ⟨J, h, f⟩ => thn ((pe_ifExp hc ha hb).run pins s σ H J I h) fun u s1 ⟨v, H1, I1, r, q⟩ => ⟨v, H1, I1, r, f _ _ q⟩⟩
end
end L2

set_option Elab.async false
set_option linter.all false
set_option maxRecDepth 100000
set_option maxHeartbeats 4000000
namespace Pl
open PySem
/-! ### the digits of a row's number -/
theorem drop_step (es : List Int) (w i : Nat) : val (es.drop i) w = es.getD i 0 + 2 ^ w * val (es.drop (i + 1)) w := by
  by_cases h : i < es.length
  · rw [List.drop_eq_getElem_cons h, List.getD_eq_getElem?_getD, List.getElem?_eq_getElem h]
    rfl
  · rw [List.drop_of_length_le (by omega), List.drop_of_length_le (by omega), List.getD_eq_getElem?_getD, List.getElem?_eq_none (by omega)]
    show (0 : Int) = 0 + 2 ^ w * 0
    rw [Int.mul_zero, Int.add_zero]
theorem val_div (es : List Int) (w : Nat) : ∀ i, val es w / 2 ^ (w * i) = car es w i + val (es.drop i) w
  | 0 => by
    rw [Nat.mul_zero, List.drop_zero]
    show val es w / 1 = 0 + _
    rw [Int.ediv_one, Int.zero_add]
  | i + 1 => by
    have hp := pw w
    rw [Nat.mul_succ, ← ediv_pow, val_div es w i, drop_step es w i]
    show _ = (es.getD i 0 + car es w i) / 2 ^ w + _
    rw [← Int.add_assoc, Int.add_mul_ediv_left _ _ (by omega), Int.add_comm (car es w i)]
theorem dig_val (es : List Int) (w i : Nat) : dig (val es w) w i = (es.getD i 0 + car es w i) % 2 ^ w := by
  unfold dig
  rw [val_div, drop_step, ← Int.add_assoc, Int.add_mul_emod_self_left, Int.add_comm (car es w i)]
/-- the first c entries -/
def ent (es : List Int) (c : Nat) : List Int := (List.range c).map fun i => es.getD i 0
theorem list_range_eq {f g : Nat → Int} {c : Nat} : (List.range c).map f = (List.range c).map g ↔ ∀ i, i < c → f i = g i := by
  constructor
  · intro h i hi
    have e := congrArg (fun l : List Int => l[i]?) h
    simpa [hi] using e
  · intro h
    exact List.map_congr_left fun i hi => h i (List.mem_range.mp hi)
theorem car_inside {es : List Int} {w c : Nat} (h : ∀ i, i < c → 0 ≤ es.getD i 0 ∧ es.getD i 0 < 2 ^ w) : ∀ i, i ≤ c → car es w i = 0
  | 0, _ => rfl
  | i + 1, hi => by
    show (es.getD i 0 + car es w i) / 2 ^ w = 0
    rw [car_inside h i (by omega), Int.add_zero]
    exact Int.ediv_eq_zero_of_lt (h i (by omega)).1 (h i (by omega)).2
theorem inside_car {es : List Int} {w c : Nat} (h : ∀ i, 1 ≤ i → i ≤ c → car es w i = 0) : ∀ i, i < c → 0 ≤ es.getD i 0 ∧ es.getD i 0 < 2 ^ w := by
  intro i hi
  have c0 : car es w i = 0 := by
    cases i with
    | zero => rfl
    | succ i => exact h (i + 1) (by omega) (by omega)
  have c1 := h (i + 1) (by omega) (by omega)
  have hp := pw w
  have e : (es.getD i 0 + car es w i) / 2 ^ w = 0 := c1
  rw [c0, Int.add_zero] at e
  have d := Int.emod_add_mul_ediv (es.getD i 0) (2 ^ w)
  have m0 := Int.emod_nonneg (es.getD i 0) (show (2 : Int) ^ w ≠ 0 by omega)
  have m1 := Int.emod_lt_of_pos (es.getD i 0) hp
  rw [e, Int.mul_zero, Int.add_zero] at d
  omega
theorem digits_iff (es : List Int) (w c : Nat) : digL (val es w) w c = ent es c ↔ ∀ i, i < c → 0 ≤ es.getD i 0 ∧ es.getD i 0 < 2 ^ w := by
  unfold digL ent
  rw [list_range_eq]
  constructor
  · intro h i hi
    have hp := pw w
    rw [← h i hi]
    exact ⟨Int.emod_nonneg _ (by omega), Int.emod_lt_of_pos _ hp⟩
  · intro h i hi
    rw [dig_val, car_inside h i (by omega), Int.add_zero]
    exact Int.emod_eq_of_lt (h i hi).1 (h i hi).2
/-! ### balanced digits -/
def rep (w c : Nat) : Int := val (List.replicate c (2 ^ (w - 1))) w
def balL (n : Int) (w c : Nat) : List Int := (digL (n + rep w c) w c).map fun d => d - 2 ^ (w - 1)
theorem balL_length (n : Int) (w c : Nat) : (balL n w c).length = c := by simp [balL, digL]
theorem val_addL (w : Nat) : ∀ xs ys : List Int, val (addL xs ys) w = val xs w + val ys w
  | [], ys => by
    have e : addL [] ys = ys := by simp [addL]
    rw [e]
    show _ = 0 + _
    rw [Int.zero_add]
  | x :: r, [] => by
    have e : addL (x :: r) [] = x :: r := by simp [addL]
    rw [e]
    show _ = _ + (0 : Int)
    rw [Int.add_zero]
  | x :: r, y :: t => by
    have e : addL (x :: r) (y :: t) = (x + y) :: addL r t := by simp [addL]
    rw [e]
    show x + y + 2 ^ w * val (addL r t) w = x + 2 ^ w * val r w + (y + 2 ^ w * val t w)
    rw [val_addL w r t, Int.mul_add]
    omega
theorem get_rep (c i : Nat) (h : Int) : (List.replicate c h).getD i 0 = if i < c then h else 0 := by
  rw [List.getD_eq_getElem?_getD, List.getElem?_replicate]
  split <;> rfl
theorem two_half {w : Nat} (hw : 1 ≤ w) : (2 : Int) ^ w = 2 * 2 ^ (w - 1) := by
  obtain ⟨k, rfl⟩ : ∃ k, w = k + 1 := ⟨w - 1, by omega⟩
  rw [Nat.add_sub_cancel, Int.pow_succ, Int.mul_comm]
theorem bal_iff (es : List Int) {w : Nat} (hw : 1 ≤ w) (c : Nat) : balL (val es w) w c = ent es c ↔ ∀ i, i < c → -(2 ^ (w - 1)) ≤ es.getD i 0 ∧ es.getD i 0 < 2 ^ (w - 1) := by
  have hB := two_half hw
  have key := digits_iff (addL es (List.replicate c (2 ^ (w - 1)))) w c
  rw [val_addL] at key
  have eg : ∀ i, i < c → (addL es (List.replicate c (2 ^ (w - 1)))).getD i 0 = es.getD i 0 + 2 ^ (w - 1) := fun i hi => by rw [addL_get, get_rep, if_pos hi]
  have e1 : balL (val es w) w c = ent es c ↔ digL (val es w + rep w c) w c = ent (addL es (List.replicate c (2 ^ (w - 1)))) c := by
    unfold balL ent digL
    rw [List.map_map, list_range_eq, list_range_eq]
    constructor
    · intro h i hi
      have := h i hi
      simp only [Function.comp] at this
      rw [eg i hi]
      omega
    · intro h i hi
      have := h i hi
      rw [eg i hi] at this
      simp only [Function.comp]
      omega
  rw [e1]
  show digL (val es w + val (List.replicate c (2 ^ (w - 1))) w) w c = _ ↔ _
  rw [key]
  constructor
  · intro h i hi
    have := h i hi
    rw [eg i hi] at this
    omega
  · intro h i hi
    have := h i hi
    rw [eg i hi]
    omega
/-- digits back -/
theorem val_digL (n : Int) (w : Nat) : ∀ c, val (digL n w c) w = n % 2 ^ (w * c)
  | 0 => by
    rw [Nat.mul_zero]
    show (0 : Int) = n % 1
    rw [Int.emod_one]
  | c + 1 => by
    have e : digL n w (c + 1) = digL n w c ++ [dig n w c] := by
      unfold digL
      rw [List.range_succ, List.map_append]
      rfl
    rw [e, val_append, val_digL n w c, digL_length]
    show n % 2 ^ (w * c) + 2 ^ (w * c) * (n / 2 ^ (w * c) % 2 ^ w + 2 ^ w * 0) = _
    have hp := pw (w * c)
    have h2 := emod_high n (w * c) w
    have h1 := emod_low n (w * c) w
    have d := Int.emod_add_mul_ediv (n % 2 ^ (w * c + w)) (2 ^ (w * c))
    rw [h1, h2] at d
    rw [Int.mul_zero, Int.add_zero, Nat.mul_succ]
    exact d
theorem val_sub (w : Nat) (h : Int) : ∀ xs : List Int, val (xs.map fun d => d - h) w = val xs w - val (List.replicate xs.length h) w
  | [] => rfl
  | x :: r => by
    show x - h + 2 ^ w * val (r.map fun d => d - h) w = x + 2 ^ w * val r w - (h + 2 ^ w * val (List.replicate r.length h) w)
    rw [val_sub w h r, Int.mul_sub]
    omega
theorem rep_eq (w : Nat) (h : Int) : ∀ s, (2 ^ w - 1) * val (List.replicate s h) w = h * (2 ^ (w * s) - 1)
  | 0 => by simp [val]
  | s + 1 => by
    rw [List.replicate_succ]
    show (2 ^ w - 1) * (h + 2 ^ w * val (List.replicate s h) w) = _
    have ih := rep_eq w h s
    have e : (2 ^ w - 1) * (2 ^ w * val (List.replicate s h) w) = 2 ^ w * (h * (2 ^ (w * s) - 1)) := by rw [← ih, ← Int.mul_assoc, Int.mul_comm (2 ^ w - 1), Int.mul_assoc]
    rw [Int.mul_add, e, Nat.mul_succ, Int.pow_add]
    generalize (2 : Int) ^ w = B
    generalize (2 : Int) ^ (w * s) = X
    simp only [Int.mul_sub, Int.sub_mul, Int.mul_one, Int.one_mul]
    rw [Int.mul_left_comm B h X, Int.mul_comm X B, Int.mul_comm B h]
    omega
theorem rep_low (w : Nat) (h : Int) (h0 : 0 ≤ h) : ∀ s, h * 2 ^ (w * s) ≤ val (List.replicate (s + 1) h) w
  | 0 => by
    show h * 2 ^ (w * 0) ≤ h + 2 ^ w * 0
    rw [Nat.mul_zero, Int.mul_zero, Int.add_zero]
    show h * 1 ≤ h
    omega
  | s + 1 => by
    have ih := rep_low w h h0 s
    rw [List.replicate_succ]
    show _ ≤ h + 2 ^ w * val (List.replicate (s + 1) h) w
    have := Int.mul_le_mul_of_nonneg_left ih (Int.le_of_lt (pw w))
    rw [Nat.mul_succ, Int.pow_add, ← Int.mul_assoc, Int.mul_comm _ (2 ^ w)]
    omega
/-- so many lanes hold all balanced digits of n -/
theorem bal_range {n : Int} {w s : Nat} (hw : 2 ≤ w) (hs : 1 ≤ s) (hn : 4 * (n.natAbs : Int) < 2 ^ (w * s)) : 0 ≤ n + rep w s ∧ n + rep w s < 2 ^ (w * s) := by
  have hB := two_half (show 1 ≤ w by omega)
  have hh : (2 : Int) ≤ 2 ^ (w - 1) := by
    obtain ⟨k, hk⟩ : ∃ k, w - 1 = k + 1 := ⟨w - 2, by omega⟩
    rw [hk, Int.pow_succ]
    have := pw k
    omega
  obtain ⟨t, rfl⟩ : ∃ t, s = t + 1 := ⟨s - 1, by omega⟩
  have lo := rep_low w (2 ^ (w - 1)) (by omega) t
  have e := rep_eq w (2 ^ (w - 1)) (t + 1)
  have eP : (2 : Int) ^ (w * (t + 1)) = 2 * (2 ^ (w - 1) * 2 ^ (w * t)) := by
    rw [Nat.mul_succ, Int.pow_add, hB, Int.mul_left_comm, Int.mul_comm (2 ^ (w * t))]
  unfold rep
  generalize val (List.replicate (t + 1) (2 ^ (w - 1))) w = r at *
  rw [hB] at e
  constructor
  · omega
  · generalize hP : (2 : Int) ^ (w * (t + 1)) = P at *
    generalize (2 : Int) ^ (w - 1) = h at *
    rcases Int.lt_or_le (n + r) P with z | z
    · exact z
    · exfalso
      have h4 : 3 * P + 1 ≤ 4 * r := by omega
      have hm := Int.mul_le_mul_of_nonneg_left h4 (show 0 ≤ 2 * h - 1 by omega)
      have e2 : (2 * h - 1) * (4 * r) = 4 * (h * (P - 1)) := by rw [← e, ← Int.mul_assoc, Int.mul_comm _ 4, Int.mul_assoc]
      rw [e2, Int.mul_sub, Int.sub_mul, Int.mul_add, Int.mul_assoc 2 h, Int.mul_left_comm h 3 P] at hm
      have hp : 2 * P ≤ h * P := Int.mul_le_mul_of_nonneg_right hh (by omega)
      omega
/-- beyond so many lanes all balanced digits are 0 -/
theorem bal_more {n : Int} {w s : Nat} (hw : 2 ≤ w) (hs : 1 ≤ s) (hn : 4 * (n.natAbs : Int) < 2 ^ (w * s)) (c : Nat) (hc : s ≤ c) : balL n w c = balL n w s ++ List.replicate (c - s) 0 := by
  obtain ⟨r0, r1⟩ := bal_range hw hs hn
  have hB := two_half (show 1 ≤ w by omega)
  have ev : val (balL n w s) w = n := by
    unfold balL
    rw [val_sub, val_digL, digL_length, Int.emod_eq_of_lt r0 r1]
    show n + rep w s - rep w s = n
    omega
  have hin : ∀ i, i < c → -(2 ^ (w - 1)) ≤ (balL n w s).getD i 0 ∧ (balL n w s).getD i 0 < 2 ^ (w - 1) := by
    intro i _
    have hp := pw (w - 1)
    by_cases hi : i < s
    · have e : (balL n w s).getD i 0 = dig (n + rep w s) w i - 2 ^ (w - 1) := by
        unfold balL digL
        rw [List.map_map, List.getD_eq_getElem?_getD, List.getElem?_map, List.getElem?_range hi]
        rfl
      rw [e]
      unfold dig
      have a0 := Int.emod_nonneg ((n + rep w s) / 2 ^ (w * i)) (show (2 : Int) ^ w ≠ 0 by have := pw w; omega)
      have a1 := Int.emod_lt_of_pos ((n + rep w s) / 2 ^ (w * i)) (pw w)
      omega
    · have e : (balL n w s).getD i 0 = 0 := by
        rw [List.getD_eq_getElem?_getD, List.getElem?_eq_none (by rw [balL_length]; omega)]
        rfl
      rw [e]
      omega
  have h1 := (bal_iff (balL n w s) (show 1 ≤ w by omega) c).mpr hin
  rw [ev] at h1
  rw [h1]
  refine List.ext_getElem? fun i => ?_
  unfold ent
  rw [List.getElem?_map]
  by_cases hi : i < s
  · rw [List.getElem?_range (by omega), List.getElem?_append_left (by rw [balL_length]; exact hi)]
    show some ((balL n w s).getD i 0) = _
    rw [List.getD_eq_getElem?_getD, List.getElem?_eq_getElem (by rw [balL_length]; exact hi)]
    rfl
  · rw [List.getElem?_append_right (by rw [balL_length]; omega), balL_length, List.getElem?_replicate]
    by_cases hic : i < c
    · rw [List.getElem?_range hic, if_pos (by omega)]
      show some ((balL n w s).getD i 0) = _
      rw [List.getD_eq_getElem?_getD, List.getElem?_eq_none (by rw [balL_length]; omega)]
      rfl
    · rw [List.getElem?_eq_none (by simp; omega), if_neg (by omega)]
      rfl
theorem bits_lt (n : Int) : n.natAbs < 2 ^ (Builtin.Int.intBits n) := by
  unfold Builtin.Int.intBits
  by_cases h : n = 0
  · subst h
    decide
  · rw [if_neg (by simpa using h)]
    exact (Nat.log2_lt (by omega)).mp (Nat.lt_succ_self _)
end Pl

set_option Elab.async false
set_option linter.all false
set_option maxRecDepth 100000
set_option maxHeartbeats 2000000
/-! enumerate and zip over lists and tuples alike -/
namespace RZ
open PySem
open PySem.Sem (wp)
/-- enumerate(v) for whatever begins -/
theorem fresh_enum {v : Value} {o : Obj} {Hv : Heap → Prop} (B : Begins v o Hv) :
    Meets (Builtin.«enumerate.__new__» ⟨[.type "enumerate", v], []⟩)
      (fun _ R s => Hv s.heap ∧ R (.ok (.ret (.ref (s.heap.push o).objs.size)))
        { s with heap := (s.heap.push o).push { cls := .type "enumerate", data := .fields #[.none, .bool false, .ref s.heap.objs.size, rawInt 0, .none, .none] } }) := by
  refine .of_wp fun pr wd Ar Rr st hs => ?_
  obtain ⟨hp, gn, dr, tk, os⟩ := st
  obtain ⟨hv, hr⟩ := hs
  have sub := sub_enumerate
  have goIter : ∀ {A' : Around} {E Q : Value → Shared → Prop}, Q (.ref hp.objs.size) ⟨hp.push o, gn, dr, tk, os⟩ → wpAny (model pr wd) A' (pyIter v) Q E ⟨hp, gn, dr, tk, os⟩ :=
    fun q => B.iter pr wd _ _ ⟨hp, gn, dr, tk, os⟩ _ hv q
  wp_walk using goIter
  refine wpAny_stack_any fun _ => wpAny_pure ?_
  split
  case h_1 =>
    rename_i cc _ _ _ _ _
    cases (cc == Value.type "enumerate") <;> (wp_walk using goIter; exact ⟨_, rfl, hr⟩)
  all_goals (wp_walk using goIter; exact ⟨_, rfl, hr⟩)
section
variable {prog : Program} {w : World} {A : Around} {E : Value → Shared → Prop} {s : Shared}
theorem call_enum_of {v : Value} {o : Obj} {Hv : Heap → Prop} {Q : Value → Shared → Prop} (B : Begins v o Hv) (hv : Hv s.heap)
    (k : ∀ h', IsEnum h' (s.heap.objs.size + 1) s.heap.objs.size 0 .none → h'.get? s.heap.objs.size = some o → (∀ b x, s.heap.get? b = some x → h'.get? b = some x) → Q (.ref (s.heap.objs.size + 1)) { s with heap := h' }) :
    wpAny (model prog w) A (call (.type "enumerate") [v]) Q E s := by
  refine callType_new F.called_enumerate (by decide) (F.typeCall_enumerate_1 _) (F.newCall_enumerate_1 _) (fun ob => F.args_object_init_2 ob _) F.entry_enumerate_new (fresh_enum B) ⟨hv, ?_⟩
  have sz : (s.heap.push o).objs.size = s.heap.objs.size + 1 := Heap.size_push ..
  show _ ∧ _
  rw [sz]
  have en := Heap.get?_push_size (s.heap.push o) (o := { cls := .type "enumerate", data := .fields #[.none, .bool false, .ref s.heap.objs.size, rawInt 0, .none, .none] }) rfl
  rw [sz] at en
  exact ⟨⟨_, en, rfl⟩, k _ en (Heap.get?_push_of_some _ (Heap.get?_push_size _ B.free)) fun b x e => Heap.get?_push_of_some _ (Heap.get?_push_of_some _ e)⟩
end
end RZ
namespace Pl
open PySem PySem.Spec PyProof.Rows L2 RZ
/-! ### a list (false) or a tuple (true) -/
def SqB (K : PySem.W.Frag) : Bool → Hp → Addr → List V → Prop
  | true, H, a, xs => SqT K H a xs
  | false, H, a, xs => SqL K H a xs
def ItB : Bool → Heap → Addr → Addr → Nat → Prop
  | true, h, it, a, i => h.IsTupleIter it a i
  | false, h, it, a, i => h.IsListIter it a i
def SeB : Bool → Heap → Addr → Array Value → Prop
  | true, h, a, v => h.IsTuple a v
  | false, h, a, v => h.IsList a v
def obB : Bool → Addr → Obj
  | true, a => { cls := .type "tuple_iterator", data := .fields #[.ref a, .int 0 0] }
  | false, a => { cls := .type "list_iterator", data := .fields #[.ref a, .int 0 0] }
theorem drawsB {prog : Program} {w : World} {A : Around} (hh : A.handled = none) (b : Bool) (it a : Addr) (hne : a ≠ it) (items : Array Value) :
    Draws prog w A it [it, a] items.size (fun i v => items[i]? = some v) (fun i h => ItB b h it a i ∧ SeB b h a items) := by
  cases b
  · exact .list hh it a hne items
  · exact .tuple hh it a hne items
theorem beginsB (b : Bool) (a : Addr) (items : Array Value) : Begins (.ref a) (obB b a) fun h => SeB b h a items := by
  cases b
  · exact begins_list a items
  · exact begins_tuple a items
theorem ItB.new {b : Bool} {h : Heap} {it a : Addr} (e : h.get? it = some (obB b a)) : ItB b h it a 0 := by
  cases b
  · exact ⟨_, e, rfl, rfl⟩
  · exact ⟨_, e, rfl, rfl⟩
theorem ItB.at {b : Bool} {h h' : Heap} {it a : Addr} {i : Nat} (x : ItB b h it a i) (e : ∀ o, h.get? it = some o → h'.get? it = some o) : ItB b h' it a i := by
  cases b
  · exact Heap.IsListIter.at x e
  · exact Heap.IsTupleIter.at x e
theorem ItB.obj {b : Bool} {h : Heap} {it a : Addr} {i : Nat} (x : ItB b h it a i) : ∃ o, h.get? it = some o ∧ ∀ v, o.data ≠ .cell v := by
  cases b
  · obtain ⟨o, e, _, d⟩ := x
    exact ⟨o, e, fun v z => by rw [d] at z; cases z⟩
  · obtain ⟨o, e, _, d⟩ := x
    exact ⟨o, e, fun v z => by rw [d] at z; cases z⟩
section
variable {X : Cx} {pins : List (Addr × Obj)} {σ : L2.St} {H : Hp} {s : Shared} {a : Addr} {xs ys : List V}
theorem seqB (I : Inv X pins σ H s) {b : Bool} (h : SqB X.K b H a xs) : ∃ its : List Value, Vals xs its ∧ SeB b s.heap a its.toArray ∧ a < s.heap.objs.size := by
  cases b
  · obtain ⟨its, rv, p, _⟩ := I.list h
    exact ⟨its, rv, p.isList, p.lt⟩
  · obtain ⟨its, rv, p, _⟩ := I.tuple h
    obtain ⟨o, e, _⟩ := id p
    exact ⟨its, rv, p, Heap.lt_size e⟩
theorem injB (I : Inv X pins σ H s) {b : Bool} (h : SqB X.K b H a xs) (h' : SqB X.K b H a ys) : xs = ys := by
  cases b
  · exact I.list_inj h h'
  · exact I.tuple_inj h h'
end
/-! ### enumerate -/
def IeB (K : PySem.W.Frag) (b : Bool) (a : Addr) : It :=
  ⟨fun i H => ∃ xs : List V, SqB K b H a xs ∧ i < xs.length,
   fun i H v H' => ∃ T x, v = .ref T ∧ H T = none ∧ H' = upd H T (.tup [.int (i : Nat), x]) ∧ ∀ xs, SqB K b H a xs → xs[i]? = some x,
   fun i H => ∃ xs : List V, SqB K b H a xs ∧ xs.length = i⟩
theorem turn_enumB {P : Program} {w : World} {K : PySem.W.Frag} {elts : List Expr} {kk : Nat} {tpos : Pos} (b : Bool) {a e it : Addr} (n1 : e ≠ it) (n2 : a ≠ it) (n3 : a ≠ e) :
    Turn P w K (.Tuple elts kk tpos) (IeB K b a) [e, it] e (fun i h => (∃ old, IsEnum h e it ((i : Nat) : Int) old) ∧ ItB b h it a i) := by
  have nm : e ∉ [it, a] := by simp [n1, Ne.symm n3]
  refine ⟨by simp, fun i h st c hc => ?_, fun i h h' st k => ?_, ?_, ?_, fun A i s Q E st h => ?_⟩
  · obtain ⟨⟨old, he⟩, hi⟩ := st
    rcases (show c = e ∨ c = it by simpa using hc) with z | z <;> rw [z]
    · exact ⟨_, he, fun v q => nomatch q⟩
    · exact hi.obj
  · obtain ⟨⟨old, he⟩, hi⟩ := st
    exact ⟨⟨old, k e (by simp) _ he⟩, hi.at fun o q => k it (by simp) o q⟩
  · intro X hP hw hK hc i pins s σ H E I hf st hg
    subst hP hw hK
    obtain ⟨⟨old, he⟩, hit⟩ := st
    obtain ⟨xs, hq, hlt⟩ := hg
    obtain ⟨its, rv, p, hal⟩ := seqB I hq
    have hle := rv.length
    have lte : e < s.heap.objs.size := Heap.lt_size he
    have ltI : it < s.heap.objs.size := by obtain ⟨o, q, _⟩ := hit.obj; exact Heap.lt_size q
    refine wpAny_pyNext_enum_itemD (drawsB (A := X.A.in1) (show X.A.in1.handled = none from I.ok.hd hc) b it a n2 its.toArray) he ⟨hit, p⟩ (by simp; omega) n1 nm fun u h' tk hu ho hst hT hsz hk => ?_
    refine ⟨_, rfl, wpAny_letOwnedTupleGo_enum (s := { s with heap := h', toks := tk + 1 }) ho fun h2 he2 sb => ?_⟩
    have hxi : xs[i]? = some xs[i] := List.getElem?_eq_getElem hlt
    obtain ⟨u', hu', ru⟩ := rv.get hxi
    have eu : u' = u := by
      have hu2 : its[i]? = some u := by simpa using hu
      rw [hu'] at hu2
      exact Option.some.inj hu2
    subst eu
    have hT2 := (sb.2 _ (Nat.ne_of_gt lte)).trans hT
    have I1 : Inv X pins σ (upd H s.heap.objs.size (.tup [.int (i : Nat), xs[i]])) { s with heap := h2, toks := tk + 1 } :=
      I.turnedNew (ch := [e, it]) (fun c o hb q => (sb.2 c (fun z => hb (by simp [z]))).trans (hk c o (fun z => hb (by simp [z])) (fun z => hb (by simp [z])) q)) hf (Nat.le_refl _)
        ⟨by show 2 ≤ sizeLine; decide, [.int i tk, u'], .cons ⟨_, rfl⟩ (.cons ru .nil), ⟨_, hT2, rfl, _, rfl⟩⟩
    refine ⟨.ref s.heap.objs.size, _, I1, rfl, ⟨_, xs[i], rfl, I.hok.fresh (Nat.le_refl _), rfl, fun l hl => by rw [injB I hl hq]; exact hxi⟩, ⟨⟨u', ?_⟩, hst.1.at fun o q => (sb.2 it (Ne.symm n1)).trans q⟩, fun c hcm => ?_⟩
    · have ei : ((i + 1 : Nat) : Int) = (i : Int) + 1 := Int.natCast_add i 1
      rw [ei]
      exact he2
    · have lt : c < s.heap.objs.size := by
        rcases (show c = e ∨ c = it by simpa using hcm) with z | z <;> rw [z] <;> assumption
      rw [upd_ne (Nat.ne_of_lt lt)]
      exact (hf c hcm).1
  · intro X hP hw hK hc i pins s σ H E I hf st hg
    subst hP hw hK
    obtain ⟨⟨old, he⟩, hit⟩ := st
    obtain ⟨xs, hq, hlt⟩ := hg
    obtain ⟨its, rv, p, hal⟩ := seqB I hq
    have hle := rv.length
    have ei : its.toArray.size = i := by simp; omega
    obtain ⟨f0, f1, f2, f3, f4, f5⟩ := hf it (by simp)
    refine wpAny_pyNext_enum_endD (drawsB (A := X.A.in1) (show X.A.in1.handled = none from I.ok.hd hc) b it a n2 its.toArray) he ⟨by rw [ei]; exact hit, p⟩ fun h' eb => ?_
    exact ⟨rfl, I.turned (t' := s.toks) (fun c o hb q => eb c o hb q) f0 f1 f3 f4 f5⟩
  · obtain ⟨⟨_, he⟩, _⟩ := st
    exact wpAny_pyIter_enum he h
/-- enumerate of a list or a tuple -/
def iEnumQ (K : PySem.W.Frag) (ta : TA) : TI := fun σ H R => ta σ H fun vs H1 => ∃ b a xs, vs = [.ref a] ∧ SqB K b H1 a xs ∧ R (IeB K b a) H1
theorem pi_enumQ {X : Cx} {K : PySem.W.Frag} {e : Expr} {ta : TA} {p pos tpos : Pos} {elts : List Expr} {kk : Nat} (hg : Gl X "enumerate") (hm : X.mg "enumerate" = none) (ha : PA X [e] ta)
    (hK : X.K = K := by rfl) (hs : starEach [e] X.env = [(false, eval e X.env)] := by rfl) : PI X (.Tuple elts kk tpos) (.Call (.Name "enumerate" p) [e] [] pos) (iEnumQ K ta) := by
  subst hK
  refine ⟨fun pins s σ H R I h => Call_ (ld_blt I hg hm boot_enumerate (PyProof.Rows.callWith_type1 (thn (ha.run pos pins s σ H _ I h) fun us s1 q0 => ?_) hs rfl))⟩
  obtain ⟨vs, H1, I1, r1, b, a, xs, rfl, hq, q⟩ := q0
  obtain ⟨its, rv, p', hal⟩ := seqB I1 hq
  rcases r1 with _ | ⟨⟨⟩, ⟨⟩⟩
  refine call_enum_of (beginsB b a its.toArray) p' fun h' he ho hk => wpAny_pyIter_enum he ?_
  refine ⟨s1.heap.objs.size + 1, [s1.heap.objs.size + 1, s1.heap.objs.size], _, _, H1, rfl, I1.kept (t' := s1.toks) hk, turn_enumB (a := a) (e := s1.heap.objs.size + 1) (it := s1.heap.objs.size) b (Nat.succ_ne_self _) (Nat.ne_of_lt hal) (Nat.ne_of_lt (Nat.lt_succ_of_lt hal)), ⟨⟨.none, he⟩, .new ho⟩, fun c hc => ?_, q⟩
  have hle : s1.heap.objs.size ≤ c := by
    rcases (show c = s1.heap.objs.size + 1 ∨ c = s1.heap.objs.size by simpa using hc) with z | z <;> rw [z]
    · exact Nat.le_add_right _ _
    · exact Nat.le_refl _
  exact I1.fpOk hle (I1.hok.fresh hle)
theorem walk_enumB {K : PySem.W.Frag} {b : Bool} {a : Addr} {xs : List V} : Walk (IeB K b a) xs.length (fun H => SqB K b H a xs) (YPair (fun i => some (.int (i : Nat))) fun i => xs[i]?) := by
  refine ⟨fun i _ hi q => ⟨xs, q, hi⟩, fun _ q => ⟨xs, q, rfl⟩, fun i H v H' _ q y => ?_⟩
  obtain ⟨T, x, h1, h2, h3, h4⟩ := y
  exact ⟨T, _, x, h1, h2, h3, rfl, h4 xs q⟩
/-! ### zip -/
def IzB (K : PySem.W.Frag) (b1 b2 : Bool) (a1 a2 : Addr) : It :=
  ⟨fun i H => ∃ xs ys : List V, SqB K b1 H a1 xs ∧ SqB K b2 H a2 ys ∧ i < xs.length ∧ i < ys.length,
   fun i H v H' => ∃ T x y, v = .ref T ∧ H T = none ∧ H' = upd H T (.tup [x, y]) ∧ (∀ xs, SqB K b1 H a1 xs → xs[i]? = some x) ∧ ∀ ys, SqB K b2 H a2 ys → ys[i]? = some y,
   fun i H => ∃ xs ys : List V, SqB K b1 H a1 xs ∧ SqB K b2 H a2 ys ∧ i = min xs.length ys.length⟩
theorem turn_zipB {P : Program} {w : World} {K : PySem.W.Frag} {elts : List Expr} {kk : Nat} {tpos : Pos} (b1 b2 : Bool) {a1 a2 z TI TO i1 i2 : Addr} (D : ZipSep2 z TI TO i1 i2 [i1, a1] [i2, a2]) (n1 : a1 ≠ i1) (n2 : a2 ≠ i2) :
    Turn P w K (.Tuple elts kk tpos) (IzB K b1 b2 a1 a2) [z, TI, TO, i1, i2] z
      (fun i h => IsZip h z TI TO .none ∧ IsTupOf2 h TI (.ref i1) (.ref i2) ∧ (∃ x y, IsTupOf2 h TO x y) ∧ ItB b1 h i1 a1 i ∧ ItB b2 h i2 a2 i) := by
  refine ⟨by simp, fun i h st c hc => ?_, fun i h h' st k => ?_, ?_, ?_, fun A i s Q E st h => wpAny_pyIter_zip st.1 h⟩
  · obtain ⟨hz, hI, ⟨x, y, hO⟩, t1, t2⟩ := st
    rcases (show c = z ∨ c = TI ∨ c = TO ∨ c = i1 ∨ c = i2 by simpa using hc) with q | q | q | q | q <;> rw [q]
    · exact ⟨_, hz, fun v q => nomatch q⟩
    · exact ⟨_, hI, fun v q => nomatch q⟩
    · exact ⟨_, hO, fun v q => nomatch q⟩
    · exact t1.obj
    · exact t2.obj
  · obtain ⟨hz, hI, ⟨x, y, hO⟩, t1, t2⟩ := st
    exact ⟨k z (by simp) _ hz, k TI (by simp) _ hI, ⟨x, y, k TO (by simp) _ hO⟩, t1.at fun o q => k i1 (by simp) o q, t2.at fun o q => k i2 (by simp) o q⟩
  · intro X hP hw hK hc i pins s σ H E I hf st hg
    subst hP hw hK
    obtain ⟨hz, hI, ⟨x0, y0, hO⟩, t1, t2⟩ := st
    obtain ⟨xs, ys, hx, hy, lx, ly⟩ := hg
    obtain ⟨its, rv, p, al⟩ := seqB I hx
    obtain ⟨jts, rw', p', al'⟩ := seqB I hy
    have e1 := rv.length
    have e2 := rw'.length
    have hd : X.A.in1.handled = none := I.ok.hd hc
    refine wpAny_pyNext_zipD2_item D (drawsB (A := X.A.in1) hd b1 i1 a1 n1 its.toArray) (drawsB (A := X.A.in1) hd b2 i2 a2 n2 jts.toArray) hz hI hO ⟨t1, p⟩ ⟨t2, p'⟩ (by simp; omega) (by simp; omega) fun u v h' tk hu hv z' O' st1 st2 hT hsz hk => ?_
    refine ⟨_, rfl, wpAny_letOwnedTupleGo_zip (s := { s with heap := h', toks := tk }) z' fun h2 z2 sb => ?_⟩
    have hxi : xs[i]? = some xs[i] := List.getElem?_eq_getElem lx
    have hyi : ys[i]? = some ys[i] := List.getElem?_eq_getElem ly
    obtain ⟨u', hu', ru⟩ := rv.get hxi
    obtain ⟨v', hv', rv'⟩ := rw'.get hyi
    have eu : u' = u := by
      have h2 : its[i]? = some u := by simpa using hu
      rw [hu'] at h2
      exact Option.some.inj h2
    have ev : v' = v := by
      have h2 : jts[i]? = some v := by simpa using hv
      rw [hv'] at h2
      exact Option.some.inj h2
    subst eu ev
    have hT2 := (sb.2 _ (Nat.ne_of_gt (Heap.lt_size hz))).trans hT
    have old : ∀ c o, c ∉ [z, TI, TO, i1, i2] → s.heap.get? c = some o → h2.get? c = some o := fun c o hc q =>
      (sb.2 c fun r => hc (by simp [r])).trans (hk c o (fun r => hc (by simp [r])) (fun r => hc (by simp [r])) (fun r => hc (by simp [r])) (fun r => hc (by simp [r])) q)
    have I1 : Inv X pins σ (upd H s.heap.objs.size (.tup [xs[i], ys[i]])) { s with heap := h2, toks := tk } :=
      I.turnedNew (ch := [z, TI, TO, i1, i2]) old hf (Nat.le_refl _) ⟨by show 2 ≤ sizeLine; decide, [u', v'], .cons ru (.cons rv' .nil), ⟨_, hT2, rfl, _, rfl⟩⟩
    refine ⟨.ref s.heap.objs.size, _, I1, rfl, ⟨_, xs[i], ys[i], rfl, I.hok.fresh (Nat.le_refl _), rfl, fun l hl => by rw [injB I hl hx]; exact hxi, fun l hl => by rw [injB I hl hy]; exact hyi⟩, ⟨z2, ?_, ⟨u', v', ?_⟩, ?_, ?_⟩, fun c hcm => ?_⟩
    · exact (sb.2 _ D.TIz).trans (hk _ _ D.TIz D.TITO D.TIi1 D.TIi2 hI)
    · exact (sb.2 _ D.TOz).trans O'
    · exact st1.1.at fun o q => (sb.2 _ (Ne.symm D.zi1)).trans q
    · exact st2.1.at fun o q => (sb.2 _ (Ne.symm D.zi2)).trans q
    · have lt : c < s.heap.objs.size := by
        rcases (show c = z ∨ c = TI ∨ c = TO ∨ c = i1 ∨ c = i2 by simpa using hcm) with q | q | q | q | q <;> rw [q]
        · exact Heap.lt_size hz
        · exact Heap.lt_size hI
        · exact Heap.lt_size hO
        · obtain ⟨o, e, _⟩ := t1.obj
          exact Heap.lt_size e
        · obtain ⟨o, e, _⟩ := t2.obj
          exact Heap.lt_size e
      rw [upd_ne (Nat.ne_of_lt lt)]
      exact (hf c hcm).1
  · intro X hP hw hK hc i pins s σ H E I hf st hg
    subst hP hw hK
    obtain ⟨hz, hI, ⟨x0, y0, hO⟩, t1, t2⟩ := st
    obtain ⟨xs, ys, hx, hy, ei⟩ := hg
    obtain ⟨its, rv, p, al⟩ := seqB I hx
    obtain ⟨jts, rw', p', al'⟩ := seqB I hy
    have e1 := rv.length
    have e2 := rw'.length
    have hd : X.A.in1.handled = none := I.ok.hd hc
    exact wpAny_pyNext_zipD2_end D (drawsB (A := X.A.in1) hd b1 i1 a1 n1 its.toArray) (drawsB (A := X.A.in1) hd b2 i2 a2 n2 jts.toArray) hz hI hO ⟨t1, p⟩ ⟨t2, p'⟩ (by simp; omega) (by simp; omega) (by simp; omega) fun h' tk hk =>
      ⟨rfl, I.turnedL (ch := [z, TI, TO, i1, i2]) (fun c o hc q => hk c o (fun r => hc (by simp [r])) (fun r => hc (by simp [r])) (fun r => hc (by simp [r])) (fun r => hc (by simp [r])) q) hf⟩
def iZipQ (K : PySem.W.Frag) (ta : TA) : TI := fun σ H R => ta σ H fun vs H1 => ∃ b1 b2 a1 a2 xs ys, vs = [.ref a1, .ref a2] ∧ SqB K b1 H1 a1 xs ∧ SqB K b2 H1 a2 ys ∧ R (IzB K b1 b2 a1 a2) H1
theorem pi_zipQ {X : Cx} {K : PySem.W.Frag} {e e2 : Expr} {ta : TA} {p pos tpos : Pos} {elts : List Expr} {kk : Nat} (hg : Gl X "zip") (hm : X.mg "zip" = none) (ha : PA X [e, e2] ta) (hK : X.K = K := by rfl)
    (hs : starEach [e, e2] X.env = (false, eval e X.env) :: starEach [e2] X.env := by rfl) (hpl : (backTo pos (starEach [e2] X.env)).any (·.1) = false := by rfl) :
    PI X (.Tuple elts kk tpos) (.Call (.Name "zip" p) [e, e2] [] pos) (iZipQ K ta) := by
  subst hK
  refine ⟨fun pins s σ H R I h => Call_ (ld_blt I hg hm PyProof.Rows.boot_zip (PyProof.Rows.callWith_type1 (thn (ha.run pos pins s σ H _ I h) fun us s1 q0 => ?_) hs hpl))⟩
  obtain ⟨vs, H1, I1, r1, b1, b2, a1, a2, xs, ys, rfl, hx, hy, q⟩ := q0
  obtain ⟨its, rv, p1, al⟩ := seqB I1 hx
  obtain ⟨jts, rw', p2, al'⟩ := seqB I1 hy
  rcases r1 with _ | ⟨⟨⟩, _ | ⟨⟨⟩, ⟨⟩⟩⟩
  refine zip_begins2 (beginsB b1 a1 its.toArray) (beginsB b2 a2 jts.toArray) p1 p2 fun h' hz hI hO o1 o2 hsz hk => wpAny_pyIter_zip hz ?_
  have sep := zip_sep2 (N := s1.heap.objs.size) (fp1 := [a1]) (fp2 := [a2]) (fun c hc => by rw [List.mem_singleton.mp hc]; exact al) (fun c hc => by rw [List.mem_singleton.mp hc]; exact al')
  refine ⟨s1.heap.objs.size + 4, [s1.heap.objs.size + 4, s1.heap.objs.size + 2, s1.heap.objs.size + 3, s1.heap.objs.size, s1.heap.objs.size + 1], _, _, H1, rfl, I1.kept (t' := s1.toks) hk,
    turn_zipB b1 b2 sep (Nat.ne_of_lt al) (Nat.ne_of_lt (Nat.lt_succ_of_lt al')), ⟨hz, hI, ⟨_, _, hO⟩, .new o1, .new o2⟩, fun c hc => ?_, q⟩
  have hle : s1.heap.objs.size ≤ c := by
    rcases (show c = s1.heap.objs.size + 4 ∨ c = s1.heap.objs.size + 2 ∨ c = s1.heap.objs.size + 3 ∨ c = s1.heap.objs.size ∨ c = s1.heap.objs.size + 1 by simpa using hc) with z | z | z | z | z <;> rw [z]
    all_goals first | exact Nat.le_refl _ | exact Nat.le_add_right _ _
  exact I1.fpOk hle (I1.hok.fresh hle)
theorem walk_zipB {K : PySem.W.Frag} {b1 b2 : Bool} {a1 a2 : Addr} {xs ys : List V} : Walk (IzB K b1 b2 a1 a2) (min xs.length ys.length) (fun H => SqB K b1 H a1 xs ∧ SqB K b2 H a2 ys) (YPair (fun i => xs[i]?) fun i => ys[i]?) := by
  refine ⟨fun i _ hi q => ⟨xs, ys, q.1, q.2, by omega, by omega⟩, fun _ q => ⟨xs, ys, q.1, q.2, rfl⟩, fun i H v H' _ q y => ?_⟩
  obtain ⟨T, x, z, h1, h2, h3, h4, h5⟩ := y
  exact ⟨T, x, z, h1, h2, h3, h4 xs q.1, h5 ys q.2⟩
/-! ### loops over pairs -/
section
variable {K : PySem.W.Frag} {g : TG} {tt : TT} {te : TE} {vs : List Nat} {σ : L2.St} {H1 : Hp} {D : Addr} {Qd : Hp → Prop} {J : It} {n : Nat} {G : Hp → Prop} {f1 f2 : Nat → Option V}
/-- a comprehension over pairs -/
theorem lcN_pair (wk : Walk J n G (YPair f1 f2)) (I : Nat → List V → Hp → Prop) (h0 : I 0 [] H1) (hl : ∀ i acc H, i ≤ n → I i acc H → H D = some (.lst acc) → G H)
    (hs : ∀ i x y acc H H2 T, f1 i = some x → f2 i = some y → i < n → I i acc H → H D = some (.lst acc) → Same H H2 → SqT K H2 T [x, y] → g (.ref T) (wipe σ vs) H2 fun σ2 H2 => wipe σ2 vs = wipe σ vs ∧ tt σ2 H2 fun b H3 =>
      if b = true then te σ2 H3 fun y H4 => H4 D = some (.lst acc) ∧ acc.length < sizeLine ∧ ∀ H5, SameBut D H4 H5 → H5 D = some (.lst (acc ++ [y])) → I (i + 1) (acc ++ [y]) H5 else H3 D = some (.lst acc) ∧ I (i + 1) acc H3)
    (hd : ∀ acc H, I n acc H → H D = some (.lst acc) → Qd H) : LcGoal J g tt te vs σ H1 D Qd := by
  refine ⟨fun i m acc H => m = n - i ∧ i ≤ n ∧ I i acc H, ⟨n, by simp, Nat.zero_le _, h0⟩, ?_⟩
  rintro i m acc H ⟨rfl, hi, p⟩ eD
  have q := hl i acc H hi p eD
  rcases Nat.lt_or_ge i n with lt | ge
  · refine .inr ⟨wk.goes i H lt q, I (i + 1), fun acc' H' p' => ⟨n - (i + 1), by omega, rfl, lt, p'⟩, fun x H' y => ?_⟩
    obtain ⟨T, x1, x2, rfl, nT, rfl, h1, h2⟩ := wk.yields i H x H' lt q y
    exact hs i x1 x2 acc H _ T h1 h2 lt p eD (same_upd nT) (.inl (.inl upd_same))
  · obtain rfl : i = n := Nat.le_antisymm hi ge
    exact .inl ⟨wk.stops H q, hd acc H p eD⟩
/-- a loop over pairs -/
theorem for_pair {tb : TS} {Ds : Ends} (wk : Walk J n G (YPair f1 f2)) (Pv : Nat → L2.St → Hp → Prop) (h0 : Pv 0 σ H1) (hG : ∀ i σ H, i ≤ n → Pv i σ H → G H)
    (hs : ∀ i x y σ H H2 T, f1 i = some x → f2 i = some y → i < n → Pv i σ H → Same H H2 → SqT K H2 T [x, y] → g (.ref T) σ H2 fun σ2 H2 => tb { Ds with nx := Pv (i + 1), ct := Pv (i + 1), bk := Ds.nx } σ2 H2)
    (hd : ∀ σ H, Pv n σ H → Ds.nx σ H) :
    ∃ W : Nat → Nat → L2.St → Hp → Prop, (∃ m, W 0 m σ H1) ∧ ∀ i m σ H, W i m σ H →
      (J.stop i H ∧ Ds.nx σ H) ∨ (J.go i H ∧ ∃ N : L2.St → Hp → Prop, (∀ σ' H', N σ' H' → ∃ m', m' < m ∧ W (i + 1) m' σ' H') ∧ ∀ x H', J.yld i H x H' → g x σ H' fun σ2 H2 => tb { Ds with nx := N, ct := N, bk := Ds.nx } σ2 H2) :=
  for_it wk Pv h0 hG (fun i x σ H H' hi p y => by
    obtain ⟨T, x1, x2, rfl, nT, rfl, h1, h2⟩ := y
    exact hs i x1 x2 σ H _ T h1 h2 hi p (same_upd nT) (.inl (.inl upd_same))) hd
end
/-! ### slices, of either kind -/
def rSlQ (K : PySem.W.Frag) : V → Option Int → Option Int → Hp → VK → Prop := fun x lo hi H Q => rSlL2 K x lo hi H Q ∨ rSlT2 K x lo hi H Q
theorem sl_sqK {X : Cx} {K : PySem.W.Frag} (hK : X.K = K := by rfl) : SlR X (rSlQ K) := by
  subst hK
  intro pins s σ H x v vl vu lo hi sl Q I r1 r2 r3 r4 h
  exact h.elim (sl_listN pins s σ H x v vl vu lo hi sl Q I r1 r2 r3 r4) (sl_tupN pins s σ H x v vl vu lo hi sl Q I r1 r2 r3 r4)
theorem Sq.cases {K : PySem.W.Frag} {H : Hp} {a : Addr} {xs : List V} (h : Sq K H a xs) : ∃ b, SqB K b H a xs := h.elim (fun h => ⟨false, h⟩) fun h => ⟨true, h⟩
theorem SqB.sq {K : PySem.W.Frag} {b : Bool} {H : Hp} {a : Addr} {xs : List V} (h : SqB K b H a xs) : Sq K H a xs := by
  cases b
  · exact .inl h
  · exact .inr h
theorem SqB.same {K : PySem.W.Frag} {b : Bool} {H H' : Hp} {a : Addr} {xs : List V} (s : Same H H') (h : SqB K b H a xs) : SqB K b H' a xs := by
  cases b
  · exact s.seq h
  · exact s.seqT h
/-- a list of two unpacked into two names -/
theorem pg_pairL {X : Cx} {K : PySem.W.Frag} {i j : Nat} {x y : Str} {p1 p2 pos : Pos} {kk : Nat} (hc : X.calm = true) (hN : X.N.Nodup) (hi : X.N[i]? = some x) (hj : X.N[j]? = some y) (hx : Loc X.env.scope x) (hy : Loc X.env.scope y)
    (hfx : X.fn x = true ∨ X.env.scope.names.lookup x = some .local := by first | exact .inl rfl | exact .inr rfl | assumption) (hfy : X.fn y = true ∨ X.env.scope.names.lookup y = some .local := by first | exact .inl rfl | exact .inr rfl | assumption) (hK : X.K = K := by rfl) :
    PG X (.Tuple [.Name x p1, .Name y p2] kk pos) (gLst K 2 (gCons (gName i) (gCons (gName j) gNil))) := hK ▸ pg_lst hc (pgs_cons (pg_name hN hi hx hfx) (pgs_cons (pg_name hN hj hy hfy) pgs_nil))
end Pl

set_option Elab.async false
set_option linter.all false
set_option maxRecDepth 100000
set_option maxHeartbeats 2000000
namespace Pl
open PySem PySem.Spec PyProof.Rows L2 RZ
/-! ### products, lane by lane -/
def shl (ys : List Int) (i n : Nat) : Int := if i ≤ n then ys.getD (n - i) 0 else 0
def conv (xs ys : List Int) : Nat → Nat → Int
  | 0, _ => 0
  | t + 1, n => conv xs ys t n + xs.getD t 0 * shl ys t n
def mulP (xs ys : List Int) : List Int := (List.range (xs.length + ys.length - 1)).map (conv xs ys xs.length)
theorem mulP_length (xs ys : List Int) : (mulP xs ys).length = xs.length + ys.length - 1 := by simp [mulP]
theorem shl_out {ys : List Int} {i n : Nat} (h : n < i ∨ i + ys.length ≤ n) : shl ys i n = 0 := by
  unfold shl
  split
  · rw [List.getD_eq_getElem?_getD, List.getElem?_eq_none (by omega)]
    rfl
  · rfl
theorem conv_out (xs ys : List Int) {n : Nat} : ∀ t, t ≤ xs.length → (0 < t → xs.length + ys.length - 1 ≤ n) → xs.length + ys.length ≤ n + 1 → conv xs ys t n = 0
  | 0, _, _, _ => rfl
  | t + 1, h, _, h2 => by
    show conv xs ys t n + _ = 0
    rw [conv_out xs ys t (by omega) (by omega) h2, shl_out (by omega), Int.mul_zero]
    rfl
theorem mulP_get (xs ys : List Int) (n : Nat) : (mulP xs ys).getD n 0 = conv xs ys xs.length n := by
  unfold mulP
  rw [List.getD_eq_getElem?_getD, List.getElem?_map]
  rcases Nat.lt_or_ge n (xs.length + ys.length - 1) with h | h
  · rw [List.getElem?_range h]
    rfl
  · rw [List.getElem?_eq_none (by rw [List.length_range]; exact h)]
    exact (conv_out xs ys _ (Nat.le_refl _) (fun _ => h) (by omega)).symm
theorem conv_cons (x : Int) (xs ys : List Int) (n : Nat) : ∀ t, conv (x :: xs) ys (t + 1) n = x * ys.getD n 0 + if n = 0 then 0 else conv xs ys t (n - 1)
  | 0 => by
    show 0 + x * shl ys 0 n = _
    have e : shl ys 0 n = ys.getD n 0 := by unfold shl; rw [if_pos (Nat.zero_le _)]; rfl
    rw [e, Int.zero_add]
    split <;> simp [conv]
  | t + 1 => by
    show conv (x :: xs) ys (t + 1) n + xs.getD t 0 * shl ys (t + 1) n = _
    rw [conv_cons x xs ys n t, Int.add_assoc]
    congr 1
    split
    · rename_i h
      rw [shl_out (by omega), Int.mul_zero]
      rfl
    · rename_i h
      show conv xs ys t (n - 1) + _ = conv xs ys t (n - 1) + _
      congr 2
      unfold shl
      by_cases h1 : t + 1 ≤ n
      · rw [if_pos h1, if_pos (by omega), show n - (t + 1) = n - 1 - t by omega]
      · rw [if_neg h1, if_neg (by omega)]
theorem val_scale (x : Int) (w : Nat) : ∀ ys : List Int, val (ys.map (x * ·)) w = x * val ys w
  | [] => by show (0 : Int) = x * 0; rw [Int.mul_zero]
  | y :: ys => by
    show x * y + 2 ^ w * val (ys.map (x * ·)) w = x * (y + 2 ^ w * val ys w)
    rw [val_scale x w ys, Int.mul_add, Int.mul_left_comm]
theorem map_get_scale (x : Int) (ys : List Int) (n : Nat) : (ys.map (x * ·)).getD n 0 = x * ys.getD n 0 := by
  rw [List.getD_eq_getElem?_getD, List.getD_eq_getElem?_getD, List.getElem?_map]
  cases ys[n]? with
  | none => show (0 : Int) = x * 0; rw [Int.mul_zero]
  | some y => rfl
theorem val_mulP (w : Nat) (ys : List Int) : ∀ xs : List Int, val (mulP xs ys) w = val xs w * val ys w
  | [] => by
    have e : ∀ l : List Int, (∀ n, l.getD n 0 = 0) → val l w = 0 := by
      intro l
      induction l with
      | nil => intro _; rfl
      | cons a l ih =>
        intro h
        show a + 2 ^ w * val l w = 0
        have h0 : a = 0 := h 0
        rw [ih fun n => h (n + 1), h0, Int.mul_zero]
        rfl
    rw [e _ fun n => mulP_get [] ys n]
    show (0 : Int) = 0 * _
    rw [Int.zero_mul]
  | x :: xs => by
    have key : val (mulP (x :: xs) ys) w = val (addL (ys.map (x * ·)) (0 :: mulP xs ys)) w := by
      refine val_congr w (xs.length + ys.length + 1) _ _ ?_ ?_ fun n => ?_
      · rw [mulP_length, List.length_cons]
        omega
      · rw [addL_length, List.length_map, List.length_cons, mulP_length]
        omega
      · rw [mulP_get, addL_get, map_get_scale]
        show conv (x :: xs) ys (xs.length + 1) n = _
        rw [conv_cons]
        congr 1
        cases n with
        | zero => rfl
        | succ n =>
          show (if n + 1 = 0 then (0 : Int) else conv xs ys xs.length n) = (mulP xs ys).getD n 0
          rw [if_neg (by omega), mulP_get]
    rw [key, val_addL, val_scale]
    show x * val ys w + (0 + 2 ^ w * val (mulP xs ys) w) = (x + 2 ^ w * val xs w) * val ys w
    rw [val_mulP w ys xs, Int.zero_add, Int.add_mul, Int.mul_assoc]
/-! ### how great a lane of a product is -/
theorem getD_small {xs : List Int} {A : Nat} (hA : 0 < A) (h : ∀ x ∈ xs, x.natAbs < A) (i : Nat) : (xs.getD i 0).natAbs < A := by
  rw [List.getD_eq_getElem?_getD]
  cases e : xs[i]? with
  | none => exact hA
  | some y => exact h y (List.mem_of_getElem? e)
theorem conv_small (xs ys : List Int) {A B : Nat} (hA : 0 < A) (hB : 0 < B) (hx : ∀ x ∈ xs, x.natAbs < A) (hy : ∀ y ∈ ys, y.natAbs < B) (n : Nat) :
    ∀ t, (conv xs ys t n).natAbs ≤ min t (min t (n + 1) - (n + 1 - ys.length)) * (A * B)
  | 0 => Nat.zero_le _
  | t + 1 => by
    have ih := conv_small xs ys hA hB hx hy n t
    show (conv xs ys t n + xs.getD t 0 * shl ys t n).natAbs ≤ _
    by_cases h : n < t ∨ t + ys.length ≤ n
    · rw [shl_out h, Int.mul_zero, Int.add_zero]
      exact Nat.le_trans ih (Nat.mul_le_mul_right _ (by omega))
    · have h1 : (xs.getD t 0 * shl ys t n).natAbs ≤ A * B := by
        rw [Int.natAbs_mul]
        refine Nat.mul_le_mul (Nat.le_of_lt (getD_small hA hx t)) ?_
        unfold shl
        split
        · exact Nat.le_of_lt (getD_small hB hy _)
        · exact Nat.zero_le _
      refine Nat.le_trans (Int.natAbs_add_le _ _) (Nat.le_trans (Nat.add_le_add ih h1) ?_)
      rw [← Nat.succ_mul]
      exact Nat.mul_le_mul_right _ (by omega)
theorem mulP_small (xs ys : List Int) {A B : Nat} (hA : 0 < A) (hB : 0 < B) (hx : ∀ x ∈ xs, x.natAbs < A) (hy : ∀ y ∈ ys, y.natAbs < B) : ∀ z ∈ mulP xs ys, z.natAbs ≤ min xs.length ys.length * (A * B) := by
  intro z hz
  unfold mulP at hz
  obtain ⟨n, hn, rfl⟩ := List.mem_map.mp hz
  exact Nat.le_trans (conv_small xs ys hA hB hx hy n xs.length) (Nat.mul_le_mul_right _ (by omega))
theorem mulP_get_small (xs ys : List Int) {A B : Nat} (hA : 0 < A) (hB : 0 < B) (hx : ∀ x ∈ xs, x.natAbs < A) (hy : ∀ y ∈ ys, y.natAbs < B) (n : Nat) : ((mulP xs ys).getD n 0).natAbs ≤ min xs.length ys.length * (A * B) := by
  rw [mulP_get]
  exact Nat.le_trans (conv_small xs ys hA hB hx hy n xs.length) (Nat.mul_le_mul_right _ (by omega))
/-! ### pair by pair -/
def psum (ps : List (Nat × Int)) (n : Nat) : Int := match ps with
  | [] => 0
  | p :: r => (if p.1 = n then p.2 else 0) + psum r n
theorem psum_append (a b : List (Nat × Int)) (n : Nat) : psum (a ++ b) n = psum a n + psum b n := by
  induction a with
  | nil => exact (Int.zero_add _).symm
  | cons p a ih =>
    show _ + psum (a ++ b) n = (_ + psum a n) + psum b n
    rw [ih, Int.add_assoc]
/-- the pairs with a factor that is not 0 -/
def prs (ys : List Int) (t : Nat) : List (Nat × Int) := ((List.range t).map fun i => (i, ys.getD i 0)).filter fun p => p.2 ≠ 0
theorem prs_succ (ys : List Int) (t : Nat) : prs ys (t + 1) = prs ys t ++ if ys.getD t 0 ≠ 0 then [(t, ys.getD t 0)] else [] := by
  unfold prs
  rw [List.range_succ, List.map_append, List.filter_append]
  congr 1
  show List.filter _ [(t, ys.getD t 0)] = _
  rw [List.filter_cons]
  by_cases h : ys.getD t 0 = 0 <;> simp [h]
theorem psum_prs (ys : List Int) (n : Nat) : ∀ t, psum (prs ys t) n = if n < t then ys.getD n 0 else 0
  | 0 => rfl
  | t + 1 => by
    rw [prs_succ, psum_append, psum_prs ys n t]
    have e0 : psum (if ys.getD t 0 ≠ 0 then [(t, ys.getD t 0)] else []) n = if t = n then ys.getD t 0 else 0 := by
      by_cases h : ys.getD t 0 = 0
      · rw [if_neg (fun z => z h), h]
        split <;> rfl
      · rw [if_pos h]
        show (if t = n then ys.getD t 0 else 0) + 0 = _
        rw [Int.add_zero]
    rw [e0]
    by_cases e : t = n
    · subst e
      rw [if_neg (Nat.lt_irrefl _), if_pos rfl, if_pos (Nat.lt_succ_self _), Int.zero_add]
    · rw [if_neg e, Int.add_zero]
      by_cases h2 : n < t
      · rw [if_pos h2, if_pos (by omega)]
      · rw [if_neg h2, if_neg (by omega)]
theorem prs_lt {ys : List Int} {t : Nat} {p : Nat × Int} (h : p ∈ prs ys t) : p.1 < t := by
  unfold prs at h
  obtain ⟨i, hi, rfl⟩ := List.mem_map.mp (List.mem_filter.mp h).1
  exact List.mem_range.mp hi
theorem psum_all (ys : List Int) (n : Nat) : psum (prs ys ys.length) n = ys.getD n 0 := by
  rw [psum_prs]
  split
  · rfl
  · rename_i h
    rw [List.getD_eq_getElem?_getD, List.getElem?_eq_none (by omega)]
    rfl
theorem prs_length (ys : List Int) (t : Nat) : (prs ys t).length ≤ t := by
  unfold prs
  refine Nat.le_trans (List.length_filter_le _ _) ?_
  simp
/-- one more product at lane k -/
theorem set_get {s : List Int} {k : Nat} (hk : k < s.length) (v : Int) (n : Nat) : (s.set k (s.getD k 0 + v)).getD n 0 = s.getD n 0 + if k = n then v else 0 := by
  rw [List.getD_eq_getElem?_getD, List.getElem?_set]
  by_cases e : k = n
  · subst e
    rw [if_pos rfl, if_pos hk, if_pos rfl]
    rfl
  · rw [if_neg e, if_neg e, Int.add_zero, List.getD_eq_getElem?_getD]
/-- lane n of what t pairs of a factor x at lane i have brought -/
def inn (x : Int) (i : Nat) (ps : List (Nat × Int)) (n : Nat) : Int := x * if i ≤ n then psum ps (n - i) else 0
theorem inn_snoc (x : Int) (i : Nat) (ps : List (Nat × Int)) (p : Nat × Int) (n : Nat) : inn x i (ps ++ [p]) n = inn x i ps n + if i + p.1 = n then x * p.2 else 0 := by
  unfold inn
  by_cases h : i ≤ n
  · rw [if_pos h, if_pos h, psum_append]
    show x * (_ + ((if p.1 = n - i then p.2 else 0) + 0)) = _
    rw [Int.add_zero, Int.mul_add]
    congr 1
    by_cases e : i + p.1 = n
    · rw [if_pos e, if_pos (by omega)]
    · rw [if_neg e, if_neg (by omega), Int.mul_zero]
  · rw [if_neg h, if_neg h, if_neg (by omega), Int.add_zero]
theorem inn_all (x : Int) (i : Nat) (ys : List Int) (n : Nat) : inn x i (prs ys ys.length) n = x * shl ys i n := by
  unfold inn shl
  rw [psum_all]
theorem list_of_get {a b : List Int} (hl : a.length = b.length) (h : ∀ n, a.getD n 0 = b.getD n 0) : a = b := by
  refine List.ext_getElem hl fun n h1 h2 => ?_
  have := h n
  rw [List.getD_eq_getElem?_getD, List.getD_eq_getElem?_getD, List.getElem?_eq_getElem h1, List.getElem?_eq_getElem h2] at this
  exact this
/-! ### a walk of a list or a tuple -/
def ItQ (K : PySem.W.Frag) : Bool → Addr → It
  | true, a => Itt K a
  | false, a => Itl K a
theorem walk_Q {K : PySem.W.Frag} {b : Bool} {a : Addr} {xs : List V} : Walk (ItQ K b a) xs.length (fun H => SqB K b H a xs) (YAt xs) := by
  cases b
  · exact walk_list
  · exact walk_tup
def iSqB (K : PySem.W.Frag) (tl : TE) : TI := fun σ H R => tl σ H fun x H1 => ∃ b a xs, x = .ref a ∧ SqB K b H1 a xs ∧ R (ItQ K b a) H1
theorem pi_sqB {X : Cx} {K : PySem.W.Frag} {tg l : Expr} {tl : TE} (hl : PE X l tl) (hK : X.K = K := by rfl) : PI X tg l (iSqB K tl) := by
  subst hK
  refine ⟨fun pins s σ H R I h => (pi_sq (tl := upE tl) hl.up).run pins s σ H R I ⟨_, h, fun x H1 z => ?_⟩⟩
  obtain ⟨b, a, xs, e, hq, r⟩ := z
  cases b
  · exact ⟨a, e, .inl ⟨xs, hq, r⟩⟩
  · exact ⟨a, e, .inr ⟨xs, hq, r⟩⟩
theorem lcN_at {K : PySem.W.Frag} {g : TG} {tt : TT} {te : TE} {vs : List Nat} {σ : L2.St} {H1 : Hp} {D : Addr} {Qd : Hp → Prop} {J : It} {n : Nat} {G : Hp → Prop} {xs : List V}
    (wk : Walk J n G (YAt xs)) (I : Nat → List V → Hp → Prop) (h0 : I 0 [] H1) (hl : ∀ i acc H, i ≤ n → I i acc H → H D = some (.lst acc) → G H)
    (hs : ∀ i x acc H, xs[i]? = some x → I i acc H → H D = some (.lst acc) → g x (wipe σ vs) H fun σ2 H2 => wipe σ2 vs = wipe σ vs ∧ tt σ2 H2 fun b H3 =>
      if b = true then te σ2 H3 fun y H4 => H4 D = some (.lst acc) ∧ acc.length < sizeLine ∧ ∀ H5, SameBut D H4 H5 → H5 D = some (.lst (acc ++ [y])) → I (i + 1) (acc ++ [y]) H5 else H3 D = some (.lst acc) ∧ I (i + 1) acc H3)
    (hd : ∀ acc H, I n acc H → H D = some (.lst acc) → Qd H) : LcGoal J g tt te vs σ H1 D Qd := by
  refine ⟨fun i m acc H => m = n - i ∧ i ≤ n ∧ I i acc H, ⟨n, by simp, Nat.zero_le _, h0⟩, ?_⟩
  rintro i m acc H ⟨rfl, hi, p⟩ eD
  have q := hl i acc H hi p eD
  rcases Nat.lt_or_ge i n with lt | ge
  · refine .inr ⟨wk.goes i H lt q, I (i + 1), fun acc' H' p' => ⟨n - (i + 1), by omega, rfl, lt, p'⟩, fun x H' y => ?_⟩
    obtain ⟨rfl, hx⟩ := wk.yields i H x H' lt q y
    exact hs i x acc _ hx p eD
  · obtain rfl : i = n := Nat.le_antisymm hi ge
    exact .inl ⟨wk.stops H q, hd acc H p eD⟩
theorem sum_le {B : Int} : ∀ {ws : List Int}, (∀ x ∈ ws, 0 ≤ x ∧ x ≤ B) → 0 ≤ ws.sum ∧ ws.sum ≤ ws.length * B
  | [], _ => ⟨Int.le_refl _, by simp⟩
  | x :: r, h => by
    have h1 := h x (List.mem_cons_self ..)
    have h2 := sum_le (ws := r) fun y hy => h y (List.mem_cons_of_mem _ hy)
    rw [List.sum_cons, List.length_cons]
    have e : ((r.length + 1 : Nat) : Int) * B = (r.length : Int) * B + B := by
      rw [Int.natCast_add, Int.add_mul]
      show _ + 1 * B = _
      rw [Int.one_mul]
    omega
end Pl

set_option Elab.async false
set_option linter.all false
set_option maxRecDepth 100000
set_option maxHeartbeats 2000000
namespace Pl
open PySem PySem.Spec PyProof.Rows L2 RZ
/-! ### x == y of an instance with an own __eq__: y such an instance, or a tuple -/
def rOwnEq (K : PySem.W.Frag) (C : Addr) (sp : Sp) (E : XK) : R2 := fun x y H Q => ∃ a dx fs b, x = .ref a ∧ y = .ref b ∧ H a = some (.ins C dx fs) ∧ ((∃ dy gs, H b = some (.ins C dy gs)) ∨ ∃ xs, SqT K H b xs) ∧ sp [.ref a, .ref b] H Q E
theorem op_ownEq {X : Cx} {CX : CXT} {K : PySem.W.Frag} {C f : Addr} {fd : FuncData} {ps : List Str} {sp : Sp} {E : XK} {k : Nat} (hm : Meth X.K C "__eq__" f) (ht : (PySem.W.subIn X.K (.type "tuple") (.ref C) == some false) = true)
    (F : FnOk X.prog X.w X.K X.mg X.base CX k f fd ps sp) (hr : Room k X.A) (hb : Binds X.K fd ps []) (hx : Passes CX X E) (hK : X.K = K := by rfl) : OpR X (compareOp .Eq) (rOwnEq K C sp E) := by
  subst hK
  have ht := eq_of_beq ht
  intro pins s σ H x' y v u Q I rx ry h
  obtain ⟨a, dx, fs, b, rfl, rfl, ha, hb', hsp⟩ := h
  cases rx
  cases ry
  obtain ⟨mA, J, _⟩ := ins_get I.hok ha
  obtain ⟨od, J, _⟩ := J.look
  obtain ⟨m, hF⟩ := I.fr
  have run := wpAny_mono (run_fn (us := [.ref a, .ref b]) (vs := [.ref a, .ref b]) F hr hb .nil hx I (.cons rfl (.cons rfl .nil)) hsp) (fun v s' q => cmpBack_of q) fun _ _ z => z
  rcases hb' with ⟨dy, gs, hb'⟩ | ⟨xs, hT⟩
  · obtain ⟨mB, J', _⟩ := ins_get I.hok hb'
    obtain ⟨od', J', _⟩ := J'.look
    exact PySem.W.cmp_K (op := .Eq) (tb := .ref C) hr.units0 hF I.ok.mod.kin J J'.type (by simp [PySem.W.notFirst]) hm.at_ hm.fn run
  · obtain ⟨its, rv, ⟨o, e, hc, _⟩, _⟩ := I.tuple hT
    refine PySem.W.cmp_K (op := .Eq) (tb := .type "tuple") hr.units0 hF I.ok.mod.kin J (fun A Q E s' kp q => wpAny_typeOf_ref (kp _ _ e) (by rw [hc]; exact q)) (by simp [PySem.W.notFirst, ht]) hm.at_ hm.fn run
/-! ### isinstance(x, C), x an instance of C or a tuple -/
def insB (K : PySem.W.Frag) (C : Addr) : Bool :=
  decide (PySem.W.findIn K (.ref C) "__class__" = some (some (.builtin "object.__class__"))) && (decide (PySem.W.specialIn K (.builtin "object.__class__") "__get__" = some (some (.builtin "getset_descriptor.__get__"))) &&
    ((PySem.W.takesIn K (.builtin "object.__class__") == some true) && ((PySem.W.mroIn K C (.type "object") == some true) && ((PySem.W.kitOne K (.ref C) (.ref C) == some true) && (PySem.W.kitOne K (.type "tuple") (.ref C) == some false)))))
def rIsiN (K : PySem.W.Frag) (C : Addr) : List V → Hp → VK → Prop := fun xs H Q => ∃ b, xs = [.ref b, .ref C] ∧ ((∃ dy gs, H b = some (.ins C dy gs) ∧ Q (.bl true) H) ∨ ∃ ys, SqT K H b ys ∧ Q (.bl false) H)
theorem call_isiK {X : Cx} {K : PySem.W.Frag} {C : Addr} (cl : Cls K C) (ib : insB K C = true) (hK : X.K = K := by rfl) : CallR X (.builtin "isinstance") (rIsiN K C) := by
  subst hK
  simp only [insB, Bool.and_eq_true, decide_eq_true_eq, beq_iff_eq] at ib
  obtain ⟨h1, h2, h3, h4, h5, h6⟩ := ib
  intro pins s σ H xs us Q I r h
  obtain ⟨b, rfl, h⟩ := h
  rcases h with ⟨dy, gs, hb, q⟩ | ⟨ys, hT, q⟩
  · exact call_isi pins s σ H _ us Q I r ⟨_, _, _, _, true, rfl, .own C, .base (.ins hb cl h1 h2 h3 h4), h5, q⟩
  · have ty : TyX X.K H (.ref b) (.type "tuple") := by
      rcases hT with (h | ⟨o, h⟩) | ⟨o, its, n, hk, hc, _⟩
      · exact .base (.tup h)
      · exact .fTuple h
      · exact .kTuple hk hc
    exact call_isi pins s σ H _ us Q I r ⟨_, _, _, _, false, rfl, .own C, ty, h6, q⟩
/-! ### lists of the same value at each width have the same entries -/
theorem bound_of (l : List Int) : ∃ m : Nat, ∀ x ∈ l, x.natAbs < 2 ^ m := by
  induction l with
  | nil => exact ⟨0, fun x h => by simp at h⟩
  | cons a l ih =>
    obtain ⟨m, hm⟩ := ih
    refine ⟨m + a.natAbs + 1, fun x h => ?_⟩
    rcases List.mem_cons.mp h with h | h
    · subst h
      exact Nat.lt_of_lt_of_le (Nat.lt_pow_self (by decide : 1 < 2)) (Nat.pow_le_pow_right (by decide) (by omega))
    · exact Nat.lt_of_lt_of_le (hm x h) (Nat.pow_le_pow_right (by decide) (by omega))
theorem val_inj {a b : List Int} (h : ∀ w, val a w = val b w) (i : Nat) : a.getD i 0 = b.getD i 0 := by
  obtain ⟨m, hm⟩ := bound_of (a ++ b)
  have bd : ∀ l : List Int, (∀ x ∈ l, x.natAbs < 2 ^ m) → balL (val l (m + 1)) (m + 1) (a.length + b.length) = ent l (a.length + b.length) := fun l hl => (bal_iff l (by omega) _).mpr fun i _ => by
    have := getD_small (Nat.pow_pos (by decide)) hl i
    show -(2 ^ m) ≤ _ ∧ _ < (2 : Int) ^ m
    have e : (2 : Int) ^ m = ((2 ^ m : Nat) : Int) := by rw [Int.natCast_pow] <;> rfl
    rw [e]
    omega
  have ea := bd a fun x hx => hm x (List.mem_append_left _ hx)
  have eb := bd b fun x hx => hm x (List.mem_append_right _ hx)
  rw [h, eb] at ea
  rcases Nat.lt_or_ge i (a.length + b.length) with lt | ge
  · have e := congrArg (fun l : List Int => l[i]?) ea
    unfold ent at e
    rw [List.getElem?_map, List.getElem?_map, List.getElem?_range lt] at e
    exact (Option.some.inj e).symm
  · rw [List.getD_eq_getElem?_getD, List.getD_eq_getElem?_getD, List.getElem?_eq_none (by omega), List.getElem?_eq_none (by omega)]
theorem stpN_last (xs : List Int) : ∀ n, stpN xs n = 0 ∨ xs.getD (stpN xs n - 1) 0 ≠ 0
  | 0 => .inl rfl
  | n + 1 => by
    have e : stpN xs (n + 1) = if xs.getD n 0 = 0 then stpN xs n else n + 1 := rfl
    rw [e]
    by_cases h : xs.getD n 0 = 0
    · rw [if_pos h]
      exact stpN_last xs n
    · rw [if_neg h]
      exact .inr (by rw [Nat.add_sub_cancel]; exact h)
theorem stp_len (xs : List Int) : (stp xs).length = stpN xs xs.length := by
  unfold stp
  rw [List.length_take]
  exact Nat.min_eq_left (stpN_le xs _)
theorem stp_le_of_get {a b : List Int} (h : ∀ i, a.getD i 0 = b.getD i 0) : (stp a).length ≤ (stp b).length := by
  rcases Nat.lt_or_ge (stp b).length (stp a).length with lt | ge
  · have e := stp_len a
    rcases stpN_last a a.length with z | z
    · omega
    · exfalso
      refine z ?_
      rw [← e, h, ← stp_get, List.getD_eq_getElem?_getD, List.getElem?_eq_none (by omega)]
      rfl
  · exact ge
theorem stp_of_get {a b : List Int} (h : ∀ i, a.getD i 0 = b.getD i 0) : stp a = stp b :=
  list_of_get (Nat.le_antisymm (stp_le_of_get h) (stp_le_of_get fun i => (h i).symm)) fun n => by rw [stp_get, stp_get, h]
theorem stp_of_val {a b : List Int} (h : ∀ w, val a w = val b w) : stp a = stp b := stp_of_get (val_inj h)
end Pl

set_option Elab.async false
set_option linter.all false
set_option maxRecDepth 100000
set_option maxHeartbeats 2000000
namespace Pl
open PySem PySem.Spec PyProof.Rows L2 RZ
/-! ### a step of a division, lane by lane -/
theorem drop_get (l : List Int) (k n : Nat) : (l.drop k).getD n 0 = l.getD (k + n) 0 := by
  rw [List.getD_eq_getElem?_getD, List.getD_eq_getElem?_getD, List.getElem?_drop]
theorem take_get (l : List Int) (k n : Nat) : (l.take k).getD n 0 = if n < k then l.getD n 0 else 0 := by
  rw [List.getD_eq_getElem?_getD, List.getElem?_take]
  split
  · rw [List.getD_eq_getElem?_getD]
  · rfl
theorem up_get (ys : List Int) (i n : Nat) : (List.replicate i (0 : Int) ++ ys).getD n 0 = shl ys i n := by
  unfold shl
  rw [List.getD_eq_getElem?_getD, List.getElem?_append, List.length_replicate]
  by_cases h : n < i
  · rw [if_pos h, if_neg (by omega), List.getElem?_replicate, if_pos h]
    rfl
  · rw [if_neg h, if_pos (by omega), List.getD_eq_getElem?_getD]
theorem shl_scale (x : Int) (ys : List Int) (i n : Nat) : shl (ys.map (x * ·)) i n = x * shl ys i n := by
  unfold shl
  split
  · exact map_get_scale x ys _
  · rw [Int.mul_zero]
theorem val_up (ys : List Int) (w : Nat) : ∀ i, val (List.replicate i (0 : Int) ++ ys) w = 2 ^ (w * i) * val ys w
  | 0 => by
    show val ys w = 2 ^ (w * 0) * val ys w
    rw [Nat.mul_zero, Int.pow_zero, Int.one_mul]
  | i + 1 => by
    show 0 + 2 ^ w * val (List.replicate i (0 : Int) ++ ys) w = _
    rw [val_up ys w i, Int.zero_add, ← Int.mul_assoc, ← Int.pow_add, Nat.mul_succ, Nat.add_comm]
theorem get_of {l : List Int} {n : Nat} (h : n < l.length) : l[n]? = some (l.getD n 0) := by
  rw [List.getD_eq_getElem?_getD, List.getElem?_eq_getElem h]
  rfl
theorem val_take_succ (l : List Int) (w : Nat) {n : Nat} (h : n < l.length) : val (l.take (n + 1)) w = val (l.take n) w + 2 ^ (w * n) * l.getD n 0 := by
  rw [take_snoc (get_of h), val_append, List.length_take, Nat.min_eq_left (Nat.le_of_lt h)]
  show _ + _ * (l.getD n 0 + 2 ^ w * 0) = _
  rw [Int.mul_zero, Int.add_zero]
theorem quot_step {ds L L' : List Int} {X : Int} {j top w : Nat} (hds : ds.length = top + 1) (hm : ds.getD top 0 = 1) (hL : j + 1 + top ≤ L.length) (hl : L'.length = L.length)
    (hg : ∀ n, L'.getD n 0 = L.getD n 0 - L.getD (j + top) 0 * shl (ds.take top) j n)
    (h : X = 2 ^ (w * (j + 1)) * val (L.drop (j + 1 + top)) w * val ds w + val (L.take (j + 1 + top)) w) :
    X = 2 ^ (w * j) * val (L'.drop (j + top)) w * val ds w + val (L'.take (j + top)) w := by
  have hdl : (ds.take top).length = top := by rw [List.length_take]; omega
  have e1 : L'.drop (j + top) = L.getD (j + top) 0 :: L.drop (j + 1 + top) := by
    refine list_of_get ?_ fun n => ?_
    · rw [List.length_drop, List.length_cons, List.length_drop]
      omega
    · rw [drop_get, hg, shl_out (.inr (by rw [hdl]; omega)), Int.mul_zero, Int.sub_zero]
      cases n with
      | zero => rfl
      | succ n =>
        show _ = (L.drop (j + 1 + top)).getD n 0
        rw [drop_get, show j + top + (n + 1) = j + 1 + top + n by omega]
  have e2 : val (L'.take (j + top)) w = val (L.take (j + top)) w + -L.getD (j + top) 0 * (2 ^ (w * j) * val (ds.take top) w) := by
    have key : val (L'.take (j + top)) w = val (addL (L.take (j + top)) (List.replicate j 0 ++ (ds.take top).map (-L.getD (j + top) 0 * ·))) w := by
      refine val_congr w (j + top + top) _ _ (by rw [List.length_take]; omega) ?_ fun n => ?_
      · rw [addL_length, List.length_take, List.length_append, List.length_replicate, List.length_map, hdl]
        omega
      · rw [addL_get, take_get, take_get, up_get, shl_scale]
        by_cases hn : n < j + top
        · rw [if_pos hn, if_pos hn, hg, Int.neg_mul, Int.sub_eq_add_neg]
        · rw [if_neg hn, if_neg hn, shl_out (.inr (by rw [hdl]; omega)), Int.mul_zero]
          rfl
    rw [key, val_addL, val_up, val_scale, Int.mul_left_comm]
  have e3 : val (L.take (j + 1 + top)) w = val (L.take (j + top)) w + 2 ^ (w * (j + top)) * L.getD (j + top) 0 := by
    rw [show j + 1 + top = (j + top) + 1 by omega, val_take_succ L w (by omega)]
  have e4 : val ds w = val (ds.take top) w + 2 ^ (w * top) := by
    have := val_take_succ ds w (n := top) (by omega)
    rw [List.take_of_length_le (by omega), hm, Int.mul_one] at this
    exact this
  have p1 : (2 : Int) ^ (w * (j + 1)) = 2 ^ (w * j) * 2 ^ w := by rw [Nat.mul_succ, Int.pow_add]
  have p2 : (2 : Int) ^ (w * (j + top)) = 2 ^ (w * j) * 2 ^ (w * top) := by rw [Nat.mul_add, Int.pow_add]
  rw [e1, e2]
  show X = 2 ^ (w * j) * (L.getD (j + top) 0 + 2 ^ w * val (L.drop (j + 1 + top)) w) * val ds w + _
  rw [h, e3, e4, p1, p2]
  generalize val (L.drop (j + 1 + top)) w = A
  generalize val (L.take (j + top)) w = T
  generalize val (ds.take top) w = D
  generalize L.getD (j + top) 0 = t
  generalize (2 : Int) ^ (w * j) = P
  generalize (2 : Int) ^ (w * top) = W
  generalize (2 : Int) ^ w = V
  grind
/-! ### quotient and rest are the only ones -/
theorem lead_zero {e ds : List Int} {top : Nat} (hdl : ds.length = top + 1) (hm : ds.getD top 0 = 1) (h : ∀ n, top ≤ n → conv (stp e) ds (stp e).length n = 0) : stp e = [] := by
  rcases Nat.eq_zero_or_pos (stp e).length with z | pos
  · exact List.eq_nil_of_length_eq_zero z
  · exfalso
    obtain ⟨k, hk⟩ : ∃ k, (stp e).length = k + 1 := ⟨(stp e).length - 1, by omega⟩
    have hlast : (stp e).getD k 0 ≠ 0 := by
      rw [stp_get]
      rcases stpN_last e e.length with z | z
      · have := stp_len e
        omega
      · rw [show k = stpN e e.length - 1 by have := stp_len e; omega]
        exact z
    have low : ∀ t, t ≤ k → conv (stp e) ds t (k + top) = 0 := by
      intro t
      induction t with
      | zero => intro _; rfl
      | succ t ih =>
        intro ht
        show conv (stp e) ds t (k + top) + _ * shl ds t (k + top) = 0
        rw [ih (by omega), shl_out (.inr (by omega)), Int.mul_zero]
        rfl
    have hz := h (k + top) (by omega)
    rw [hk] at hz
    have e1 : conv (stp e) ds (k + 1) (k + top) = conv (stp e) ds k (k + top) + (stp e).getD k 0 * shl ds k (k + top) := rfl
    have e2 : shl ds k (k + top) = 1 := by
      unfold shl
      rw [if_pos (by omega), show k + top - k = top by omega]
      exact hm
    rw [e1, low k (Nat.le_refl _), e2, Int.mul_one, Int.zero_add] at hz
    exact hlast hz
theorem quot_unique {ds q q' r r' : List Int} {top : Nat} (hdl : ds.length = top + 1) (hm : ds.getD top 0 = 1) (hr : r.length ≤ top) (hr' : r'.length ≤ top)
    (h : ∀ w, val q w * val ds w + val r w = val q' w * val ds w + val r' w) : stp q = stp q' ∧ stp r = stp r' := by
  have ve : ∀ w, val (addL q (q'.map (-1 * ·))) w = val q w - val q' w := fun w => by
    rw [val_addL, val_scale]
    omega
  have he : stp (addL q (q'.map (-1 * ·))) = [] := by
    refine lead_zero hdl hm fun n hn => ?_
    have key : ∀ n, (mulP (stp (addL q (q'.map (-1 * ·)))) ds).getD n 0 = (addL r' (r.map (-1 * ·))).getD n 0 := val_inj fun w => by
      rw [val_mulP, val_stp, ve, val_addL, val_scale]
      have := h w
      generalize val q w = a at *
      generalize val q' w = b at *
      generalize val ds w = d at *
      generalize val r w = x at *
      generalize val r' w = y at *
      grind
    rw [← mulP_get, key n, addL_get, map_get_scale, List.getD_eq_getElem?_getD, List.getD_eq_getElem?_getD, List.getElem?_eq_none (by omega), List.getElem?_eq_none (by omega)]
    rfl
  have hq : ∀ w, val q w = val q' w := fun w => by
    have h1 := ve w
    rw [← val_stp, he] at h1
    have h2 : (0 : Int) = val q w - val q' w := h1
    omega
  refine ⟨stp_of_val hq, stp_of_val fun w => ?_⟩
  have := h w
  rw [hq w] at this
  omega
end Pl

set_option Elab.async false
set_option linter.all false
set_option maxRecDepth 100000
set_option maxHeartbeats 2000000
namespace L2
open PySem PySem.Spec PyProof.Rows RZ
section
variable {X : Cx} {K : PySem.W.Frag}
/-- xs[lo::e], e a written number of any kind -/
theorem pe_slStepE {e es : Expr} {lo : Option Expr} {te ts : TE} {tl : TO} {j : Int} {p3 pos : Pos} (he : PE X e te) (hl : PO X lo tl) (hs : PE X es ts) (hts : ∀ σ H Q, Q (V.int j) H → ts σ H Q) (hj : j ≠ 0) (hK : X.K = K := by rfl) :
    PE X (.Subscript e (.Slice lo none (some es) p3) pos) (tSlStep K te tl j) := by
  subst hK
  refine ⟨fun pins s σ H Q I h => ?_⟩
  refine Subscript_ (thn (he.run pins s σ H _ I h) fun v s1 ⟨x, H1, I1, r1, q1⟩ => ?_)
  have hst : PO X (some es) (tPart ts) := po_some hs
  refine wpAny_Slice (thn (hl.run pins s1 σ H1 _ I1 q1) fun vl s2 ⟨l, H2, I2, pl, q2⟩ => ?_)
  obtain ⟨a, xs, ex, hx, q⟩ := q2
  subst ex
  cases r1
  refine thn (po_none.run pins s2 σ H2 (fun o H3 => o = none ∧ H3 = H2) I2 ⟨rfl, rfl⟩) fun vu s3 ⟨u, H3, I3, pu, eu, e3⟩ => ?_
  subst eu e3
  refine thn (hst.run pins s3 σ H3 (fun o H4 => o = some j ∧ H4 = H3) I3 (hts _ _ _ ⟨j, rfl, rfl, rfl⟩)) fun vs s4 ⟨o, H4, I4, ps, eo, e4⟩ => ?_
  subst eo e4
  have I5 : Inv X pins σ H4 { s4 with heap := s4.heap.push { cls := .type "slice", data := .fields #[vl, vu, vs] } } := I4.kept (t' := s4.toks) fun b ob q => Heap.get?_push_of_some _ q
  obtain ⟨its, r, ht, hz⟩ := I5.list hx
  have hlen := r.length
  show wpAny (model X.prog X.w) X.A (subscriptTail e (.Slice lo none (some es) p3) (.ref a) (.ref s4.heap.objs.size)) (EP X pins σ Q) X.xe { s4 with heap := s4.heap.push { cls := .type "slice", data := .fields #[vl, vu, vs] } }
  refine tail_any (ops := [.ref a, .ref s4.heap.objs.size]) ht.isList.typeIs (PySem.slot_list_getitem.lookup) ?_ (by with_unfolding_all rfl)
  refine wpAny_getItem_list_slice ht.isList (Heap.IsSliceOf.new _ vl vu vs) pl pu ps (by simpa using hj) ?_ (by rw [List.size_toArray]; omega)
  have e : slicePick its.toArray l none (some j) = ((sliceRange (sliceBounds l none (some j) xs.length).1 (sliceBounds l none (some j) xs.length).2.1 (sliceBounds l none (some j) xs.length).2.2).filterMap (its[·]?)).toArray := by
    unfold slicePick
    rw [List.size_toArray, ← hlen]
    simp
  have hle : (slicePick its.toArray l none (some j)).size ≤ its.toArray.size := slicePick_size_le _ _ _ _
  rw [e] at hle ⊢
  have vp := vals_pick r (sliceRange (sliceBounds l none (some j) xs.length).1 (sliceBounds l none (some j) xs.length).2.1 (sliceBounds l none (some j) xs.length).2.2)
  refine ⟨.ref _, _, I5.laid (t' := s4.toks) (o := .lst (pickV xs l j)) (fun b ob q => Heap.get?_push_of_some _ q) (Nat.le_refl _) ?_, rfl, q.go _ (I5.hok.fresh (Nat.le_refl _))⟩
  refine ⟨?_, _, 0, vp, Heap.get?_push_size _ rfl⟩
  have h2 : (pickV xs l j).length = _ := vp.length
  rw [h2]
  rw [List.size_toArray, List.size_toArray] at hle
  omega
/-- xs[::-1] -/
theorem pe_slRev {e : Expr} {te : TE} {k : Nat} {p1 p2 p3 pos : Pos} (he : PE X e te) (hK : X.K = K := by rfl) :
    PE X (.Subscript e (.Slice none none (some (.UnaryOp .USub (.Constant (.int 1) k p1) p2)) p3) pos) (tSlStep K te tNoPart (-1)) :=
  pe_slStepE he po_none (pe_un un_neg pe_int) (fun σ H Q q => ⟨1, rfl, q⟩) (by decide) hK
end
theorem pick_rev (xs : List V) : pickV xs none (-1) = xs.reverse := by
  have e : pickV xs none (-1) = ((List.range xs.length).map fun i => xs.length - 1 - i).filterMap (xs[·]?) := by
    unfold pickV sliceBounds sliceRange
    simp only [Option.getD_some, Option.getD_none]
    congr 1
    cases hn : xs.length with
    | zero => simp
    | succ n =>
      simp
      try congr 1
      all_goals first
        | omega
        | (funext i; omega)
        | (congr 1; omega)
  rw [e]
  refine List.ext_getElem? fun i => ?_
  rw [pick_by xs (fun i => xs.length - 1 - i) _ (fun i hi => by omega)]
  split
  · rename_i h
    rw [List.getElem?_reverse h]
  · rw [List.getElem?_eq_none (by simp; omega)]
theorem pick_evens0 (xs : List V) : pickV xs (some 0) 2 = Pl.evens xs := by
  rw [← pick_evens]
  unfold pickV sliceBounds
  simp
  rw [show max (0 : Int) (min 0 (xs.length : Int)) = 0 by omega]
end L2
namespace Pl
/-! ### division by (-c, 1), by (-1, 0, 1) -/
def hor (c : Int) : List Int → Int
  | [] => 0
  | x :: r => x + c * hor c r
def horQ (c : Int) : List Int → List Int
  | [] => []
  | _ :: r => hor c r :: horQ c r
theorem hor_div (c : Int) (w : Nat) : ∀ xs, val xs w = val (horQ c xs) w * val [-c, 1] w + val [hor c xs] w
  | [] => by
    show (0 : Int) = 0 * _ + (0 + 2 ^ w * 0)
    rw [Int.zero_mul, Int.mul_zero]
    rfl
  | x :: r => by
    have ih := hor_div c w r
    show x + 2 ^ w * val r w = (hor c r + 2 ^ w * val (horQ c r) w) * (-c + 2 ^ w * (1 + 2 ^ w * 0)) + (x + c * hor c r + 2 ^ w * 0)
    have ih2 : val r w = val (horQ c r) w * (-c + 2 ^ w * (1 + 2 ^ w * 0)) + (hor c r + 2 ^ w * 0) := ih
    generalize val r w = A at *
    generalize val (horQ c r) w = B at *
    generalize hor c r = h at *
    generalize (2 : Int) ^ w = V at *
    subst ih2
    grind
theorem hor_one : ∀ xs, hor 1 xs = xs.sum
  | [] => rfl
  | x :: r => by
    show x + 1 * hor 1 r = _
    rw [hor_one r, Int.one_mul, List.sum_cons]
def twoQ : List Int → List Int
  | _ :: _ :: r => (evens r).sum :: (odds r).sum :: twoQ r
  | _ => []
theorem two_div (w : Nat) : ∀ xs, val xs w = val (twoQ xs) w * val [-1, 0, 1] w + val [(evens xs).sum, (odds xs).sum] w
  | [] => by
    show (0 : Int) = 0 * _ + (0 + 2 ^ w * (0 + 2 ^ w * 0))
    simp
  | [a] => by
    show a + 2 ^ w * 0 = 0 * _ + (([a] : List Int).sum + 2 ^ w * (([] : List Int).sum + 2 ^ w * 0))
    simp
  | a :: b :: r => by
    have ih := two_div w r
    show a + 2 ^ w * (b + 2 ^ w * val r w) = ((evens r).sum + 2 ^ w * ((odds r).sum + 2 ^ w * val (twoQ r) w)) * (-1 + 2 ^ w * (0 + 2 ^ w * (1 + 2 ^ w * 0))) + ((a :: evens r).sum + 2 ^ w * ((b :: odds r).sum + 2 ^ w * 0))
    have ih2 : val r w = val (twoQ r) w * (-1 + 2 ^ w * (0 + 2 ^ w * (1 + 2 ^ w * 0))) + ((evens r).sum + 2 ^ w * ((odds r).sum + 2 ^ w * 0)) := ih
    rw [List.sum_cons, List.sum_cons]
    generalize val r w = A at *
    generalize val (twoQ r) w = B at *
    generalize (evens r).sum = h at *
    generalize (odds r).sum = g at *
    generalize (2 : Int) ^ w = V at *
    subst ih2
    grind
/-- worth * c + entry, from the last entry on -/
theorem hor_fold (c : Int) : ∀ xs : List Int, xs.reverse.foldl (fun a x => a * c + x) 0 = hor c xs
  | [] => rfl
  | x :: r => by
    rw [List.reverse_cons, List.foldl_append, hor_fold c r]
    show hor c r * c + x = x + c * hor c r
    rw [Int.mul_comm, Int.add_comm]
/-- the signs by turns -/
theorem hor_alt : ∀ (xs : List Int) (s : Int), (s = 1 ∨ s = -1) → (List.zipWith (· * ·) xs ((List.range xs.length).map fun k : Nat => s * (1 - 2 * ((k : Int) % 2)))).sum = s * hor (-1) xs
  | [], s, _ => by simp [hor]
  | x :: r, s, hs => by
    have ih := hor_alt r (-s) (by omega)
    rw [List.length_cons, List.range_succ_eq_map, List.map_cons, List.map_map, List.zipWith_cons_cons, List.sum_cons]
    have e : ((fun k : Nat => s * (1 - 2 * ((k : Int) % 2))) ∘ Nat.succ) = fun k : Nat => -s * (1 - 2 * ((k : Int) % 2)) := by
      funext k
      show s * (1 - 2 * (((k + 1 : Nat) : Int) % 2)) = -s * (1 - 2 * ((k : Int) % 2))
      rcases hs with rfl | rfl <;> omega
    rw [e, ih]
    show x * (s * (1 - 2 * (((0 : Nat) : Int) % 2))) + -s * hor (-1) r = s * (x + -1 * hor (-1) r)
    rcases hs with rfl | rfl <;> simp <;> omega
theorem stp_small {xs : List Int} {A : Nat} (h : ∀ x ∈ xs, x.natAbs < A) : ∀ x ∈ stp xs, x.natAbs < A := fun x hx => h x (List.mem_of_mem_take hx)
theorem stp_monic {ds : List Int} {top : Nat} (hl : ds.length = top + 1) (hm : ds.getD top 0 = 1) : stp ds = ds := by
  unfold stp
  rw [hl, stpN_stop (.inr (by rw [Nat.add_sub_cancel, hm]; decide)), ← hl, List.take_length]
/-- the number modulo B - 1 -/
theorem val_mod (xs : List Int) (w : Nat) : val xs w % (2 ^ w - 1) = xs.sum % (2 ^ w - 1) := by
  have h := hor_div 1 w xs
  rw [hor_one] at h
  have e1 : val [-1, 1] w = 2 ^ w - 1 := by
    show -1 + 2 ^ w * (1 + 2 ^ w * 0) = _
    rw [Int.mul_zero, Int.add_zero, Int.mul_one, Int.add_comm, Int.sub_eq_add_neg]
  have e2 : val [xs.sum] w = xs.sum := by
    show xs.sum + 2 ^ w * 0 = _
    rw [Int.mul_zero, Int.add_zero]
  rw [e1, e2] at h
  rw [h, Int.add_comm, Int.mul_comm, Int.add_mul_emod_self_left]
theorem sum_append (a b : List Int) : (a ++ b).sum = a.sum + b.sum := by
  induction a with
  | nil => exact (Int.zero_add _).symm
  | cons x a ih =>
    rw [List.cons_append, List.sum_cons, List.sum_cons, ih, Int.add_assoc]
def trms (xs : List Int) (w : Nat) : List Int := (List.range xs.length).map fun k => xs.getD k 0 * 2 ^ (w * k)
theorem trms_get {xs : List Int} {w k : Nat} (h : k < xs.length) : (trms xs w)[k]? = some (xs.getD k 0 * 2 ^ (w * k)) := by
  unfold trms
  rw [List.getElem?_map, List.getElem?_range h]
  rfl
theorem trms_length (xs : List Int) (w : Nat) : (trms xs w).length = xs.length := by simp [trms]
theorem sum_trms (xs : List Int) (w : Nat) : (trms xs w).sum = val xs w := by
  have key : ∀ n, n ≤ xs.length → ((trms xs w).take n).sum = val (xs.take n) w := by
    intro n
    induction n with
    | zero => intro _; rfl
    | succ n ih =>
      intro h
      have hx : xs[n]? = some (xs.getD n 0) := by rw [List.getD_eq_getElem?_getD, List.getElem?_eq_getElem (by omega)] <;> rfl
      rw [take_snoc (trms_get (by omega)), sum_append, ih (by omega), take_snoc hx, val_append, List.length_take, Nat.min_eq_left (by omega)]
      show _ + (_ + 0) = _ + _ * (xs.getD n 0 + 2 ^ w * 0)
      rw [Int.mul_zero, Int.add_zero, Int.add_zero, Int.mul_comm (2 ^ (w * n))]
  have := key xs.length (Nat.le_refl _)
  rwa [List.take_of_length_le (by rw [trms_length]; exact Nat.le_refl _), List.take_of_length_le (Nat.le_refl _)] at this
theorem horQ_get (c : Int) : ∀ (xs : List Int) (i : Nat), i < xs.length → (horQ c xs)[i]? = some (hor c (xs.drop (i + 1)))
  | [], i, h => absurd h (Nat.not_lt_zero _)
  | x :: r, 0, _ => rfl
  | x :: r, i + 1, h => by
    show (horQ c r)[i]? = some (hor c (r.drop (i + 1)))
    exact horQ_get c r i (Nat.lt_of_succ_lt_succ h)
theorem horQ_length (c : Int) : ∀ xs : List Int, (horQ c xs).length = xs.length
  | [] => rfl
  | x :: r => by
    show (horQ c r).length + 1 = r.length + 1
    rw [horQ_length c r]
/-- division by 0, .., 0, 1 -/
theorem up_div (xs : List Int) (m w : Nat) : val xs w = val (xs.drop m) w * val (List.replicate m 0 ++ [1]) w + val (xs.take m) w := by
  rw [val_up]
  show _ = _ * (2 ^ (w * m) * (1 + 2 ^ w * 0)) + _
  rw [Int.mul_zero, Int.add_zero, Int.mul_one]
  rcases Nat.lt_or_ge xs.length m with h | h
  · rw [List.drop_of_length_le (by omega), List.take_of_length_le (by omega)]
    show _ = 0 * _ + _
    rw [Int.zero_mul, Int.zero_add]
  · have e := congrArg (fun l => val l w) (List.take_append_drop m xs)
    simp only [val_append, List.length_take, Nat.min_eq_left h] at e
    rw [← e, Int.mul_comm, Int.add_comm]
theorem stp_take (xs : List Int) (m : Nat) : stp ((stp xs).take m) = stp (xs.take m) := stp_of_get fun i => by
  rw [take_get, take_get, stp_get]
theorem stp_drop (xs : List Int) (m : Nat) : stp ((stp xs).drop m) = stp (xs.drop m) := stp_of_get fun i => by
  rw [drop_get, drop_get, stp_get]
end Pl

set_option Elab.async false
set_option linter.all false
set_option maxRecDepth 100000
set_option maxHeartbeats 2000000
/-! a head's facts with defs at any address and a Bool of one's own; properties, staticmethods, own signs -/
namespace Pl
open PySem PySem.Spec PyProof.Rows L2 RZ
abbrev AlB : Type := He.AlD × Bool
def obsBK (fa : List He.Fa) (fn : List He5.DefA) (ex : PySem.W.Frag → Bool) (K : PySem.W.Frag) : AlB := (He5.obsA fa fn K, ex K)
def obsB (n : Nat) (fa : List He.Fa) (fn : List He5.DefA) (ex : PySem.W.Frag → Bool) (g : Addr → Option Obj) : AlB := obsBK fa fn ex (He.frG g (He5.asA g n))
def SaysB (fa : List He.Fa) (fn : List He5.DefA) (ex : PySem.W.Frag → Bool) (K : PySem.W.Frag) : Prop := obsBK fa fn ex K = (He5.valA fn, true)
def hookB (n : Nat) (fa : List He.Fa) (fn : List He5.DefA) (ex : PySem.W.Frag → Bool) : PySem.W.Hook where
  α := AlB
  obs := fun s => obsB n fa fn ex s.heap.get?
  val := fun _ => (He5.valA fn, true)
  says := fun _ h => ∃ K : PySem.W.Frag, K.In h ∧ SaysB fa fn ex K
  of := fun _ _ e => ⟨_, He.frG_in, e⟩
  keeps := fun _ _ _ ⟨K, hK, c⟩ k => ⟨K, PySem.W.Frag.In.keeps hK k, c⟩
theorem obsB_eq {n : Nat} {fa : List He.Fa} {fn : List He5.DefA} {ex : PySem.W.Frag → Bool} {g : Addr → Option Obj} {s : Shared} (h : ∀ a, g a = s.heap.get? a) : obsB n fa fn ex g = (hookB n fa fn ex).obs s := by
  have e : g = s.heap.get? := funext h
  rw [e] <;> rfl
section
variable {fa : List He.Fa} {fn : List He5.DefA} {ex : PySem.W.Frag → Bool} {K : PySem.W.Frag}
theorem SaysB.a (c : SaysB fa fn ex K) : He5.SaysA fa fn K := congrArg (fun z : AlB => z.1) c
theorem SaysB.more (c : SaysB fa fn ex K) : ex K = true := congrArg (fun z : AlB => z.2) c
end
/-! ### a property -/
def propB (K : PySem.W.Frag) (C : Addr) (f : Str) : Bool :=
  He.eqO (PySem.W.findIn K (.ref C) f) (some (some (.ref (He.ma K C f)))) && (He.eqO (PySem.W.specialIn K (.ref (He.ma K C f)) "__get__") (some (some (.builtin "property.__get__"))) && (decide (PySem.W.takesIn K (.ref (He.ma K C f)) = some true) && (match PySem.W.recIn K (He.ma K C f) "property" with
    | some (.ref _ :: _) => true
    | _ => false)))
theorem propB_ok {K : PySem.W.Frag} {C : Addr} {f : Str} (h : propB K C f = true) : PropOf K C f (He.ma K C f) (He5.wf K C "property" f) := by
  obtain ⟨h1, h⟩ := He.ba h
  obtain ⟨h2, h⟩ := He.ba h
  obtain ⟨h3, h4⟩ := He.ba h
  refine ⟨He.eqO_ok h1, He.eqO_ok h2, of_decide_eq_true h3, ?_⟩
  unfold He5.wf
  split at h4
  · rename_i g r e
    exact ⟨r, by rw [e]⟩
  · cases h4
/-! ### a staticmethod, called off its class -/
structure SMet (K : PySem.W.Frag) (C : Addr) (m : Str) (p g : Addr) : Prop where
  rd : PySem.W.readsIn K C (.type "type") = true
  ga : PySem.W.specialIn K (.ref C) "__getattribute__" = some (some (.builtin "type.__getattribute__"))
  at_ : PySem.W.findCls K (.ref C) (.type "type") m = some (.get (.builtin "staticmethod.__get__") (.ref p) .none (.ref C))
  rc : ∃ rest, PySem.W.recIn K p "staticmethod" = some (.ref g :: rest)
def smetB (K : PySem.W.Frag) (C : Addr) (m : Str) : Bool := PySem.W.readsIn K C (.type "type") && (He.eqO (PySem.W.specialIn K (.ref C) "__getattribute__") (some (some (.builtin "type.__getattribute__"))) && He5.wrapB K C "staticmethod" "staticmethod.__get__" m)
theorem smetB_ok {K : PySem.W.Frag} {C : Addr} {m : Str} (h : smetB K C m = true) : SMet K C m (He.ma K C m) (He5.wf K C "staticmethod" m) := by
  obtain ⟨h1, h⟩ := He.ba h
  obtain ⟨h2, h3⟩ := He.ba h
  obtain ⟨h4, h5⟩ := He5.wrapB_ok h3
  exact ⟨h1, He.eqO_ok h2, h4, h5⟩
def tSMeth (C : Addr) (sp : Sp) (E : XK) (ta : TE) (t : TA) : TE := fun σ H Q => ta σ H fun x H1 => x = .ref C ∧ t σ H1 fun vs H2 => sp vs H2 Q E
theorem pe_smeth {X : Cx} {CX : CXT} {k : Nat} {C p g : Addr} {sp : Sp} {E : XK} {o e : Expr} {es : List Expr} {m : Str} {pos apos : Pos} {ta : TE} {t : TA} {pl : Sem Bool} {fd : FuncData} {ps : List Str} (he : PE X o ta) (c : SMet X.K C m p g)
    (F : FnOk X.prog X.w X.K X.mg X.base CX k g fd ps sp) (hr : Room k X.A) (hk : PySem.W.keepIn X.K (.ref g) = true) (hb : Binds X.K fd ps []) (hx : Passes CX X E) (ha : PA X (e :: es) t)
    (hst : starEach (e :: es) X.env = (false, eval e X.env) :: starEach es X.env := by rfl) (hpl : (backTo pos (starEach es X.env)).any (·.1) = false := by rfl)
    (ht : eval (.Call (.Attribute o m apos) (e :: es) [] pos) X.env = (do
      let ov ← eval o X.env
      standAt apos.atName
      let (f, first) ← holding [ov] (getMethod ov m pl)
      callWith pos f first (backTo pos (starEach (e :: es) X.env)) (backToKw pos (keywordEach [] X.env))) := by rfl) :
    PE X (.Call (.Attribute o m apos) (e :: es) [] pos) (tSMeth C sp E ta t) := by
  refine ⟨fun pins s σ H Q I h => ?_⟩
  refine PySem.W.methodCall_KW (pl := pl) (thn (he.run pins s σ H _ I h) fun u s1 ⟨x, H1, I1, rx, ex, q⟩ => ?_) ht
  subst ex
  obtain rfl : u = Value.ref C := rx
  obtain ⟨rest, hp⟩ := c.rc
  refine PySem.W.method_cls I1.kIn c.ga (PySem.W.cls_bind I1.kIn c.rd c.at_ (wpAny_call (PySem.W.sm_get (s := { s1 with toks := s1.toks + 1 }) I1.kIn hp (PySem.W.handed_on rfl ?_))))
  refine PySem.W.callWith_K (h₀ := X.base) I.ok.mod.kin hk (thn (ha.run pos pins _ σ H1 _ (I1.tok _) q) fun us s2 ⟨vs, H2, I2, r, q2⟩ => ⟨I2.kIn, ?_⟩) hst hpl
  exact run_fn F hr hb .nil hx I2 r (by rw [List.append_nil]; exact q2)
/-! ### own signs -/
def rUnOwn (C : Addr) (sp : Sp) (E : XK) : V → Hp → VK → Prop := fun x H Q => ∃ a dx fs, x = .ref a ∧ H a = some (.ins C dx fs) ∧ sp [.ref a] H Q E
section
variable {X : Cx} {CX : CXT} {C f : Addr} {fd : FuncData} {ps : List Str} {sp : Sp} {E : XK} {k : Nat}
theorem un_ownNeg (hm : Meth X.K C "__neg__" f) (F : FnOk X.prog X.w X.K X.mg X.base CX k f fd ps sp) (hr : Room k X.A) (hb : Binds X.K fd ps []) (hx : Passes CX X E) : UnR X (unaryOp .USub) (rUnOwn C sp E) := by
  intro pins s σ H x v Q I rx h
  obtain ⟨a, dx, fs, rfl, ha, hsp⟩ := h
  cases rx
  obtain ⟨mA, J, _⟩ := ins_get I.hok ha
  obtain ⟨od, J, _⟩ := J.look
  obtain ⟨m, hF⟩ := I.fr
  exact PySem.W.ksp_neg hF I.ok.mod.kin J hm.at_ hm.fn (run_fn (us := [.ref a]) (vs := [.ref a]) F hr hb .nil hx I (.cons rfl .nil) hsp)
theorem un_ownInv (hm : Meth X.K C "__invert__" f) (F : FnOk X.prog X.w X.K X.mg X.base CX k f fd ps sp) (hr : Room k X.A) (hb : Binds X.K fd ps []) (hx : Passes CX X E) : UnR X (unaryOp .Invert) (rUnOwn C sp E) := by
  intro pins s σ H x v Q I rx h
  obtain ⟨a, dx, fs, rfl, ha, hsp⟩ := h
  cases rx
  obtain ⟨mA, J, _⟩ := ins_get I.hok ha
  obtain ⟨od, J, _⟩ := J.look
  obtain ⟨m, hF⟩ := I.fr
  exact PySem.W.ksp_inv hF I.ok.mod.kin J hm.at_ hm.fn (run_fn (us := [.ref a]) (vs := [.ref a]) F hr hb .nil hx I (.cons rfl .nil) hsp)
/-- x op i, i an int -/
def rOwnI (C : Addr) (sp : Sp) (E : XK) : R2 := fun x y H Q => ∃ a dx fs i, x = .ref a ∧ y = .int i ∧ H a = some (.ins C dx fs) ∧ sp [.ref a, .int i] H Q E
def ownIB (K : PySem.W.Frag) (C : Addr) (op : Operator) : Bool := PySem.W.selfFirst K C && ((match PySem.W.findIn K (.ref C) (dunderR op.info.2) with
    | some none => true
    | some (some (.ref _)) => true
    | _ => false) && ((PySem.W.findIn K (.type "int") (PySem.dunder op.info.2)).isSome && ((PySem.W.findIn K (.type "int") (dunderR op.info.2)).isSome && decide (PySem.W.subIn K (.type "int") (.ref C) = some false))))
theorem op_ownI {op : Operator} {x : Str} (hm : Meth X.K C x f) (hB : ownIB X.K C op = true) (F : FnOk X.prog X.w X.K X.mg X.base CX k f fd ps sp) (hr : Room k X.A) (hb : Binds X.K fd ps []) (hx : Passes CX X E)
    (hn : PySem.dunder op.info.2 = x := by first | rfl | decide +kernel) : OpR X (binaryOp op) (rOwnI C sp E) := by
  intro pins s σ H x' y v u Q I rx ry h
  obtain ⟨a, dx, fs, i, rfl, rfl, ha, hsp⟩ := h
  cases rx
  obtain ⟨t, rfl⟩ := ry
  obtain ⟨mA, J, _⟩ := ins_get I.hok ha
  obtain ⟨od, J, _⟩ := J.look
  obtain ⟨m, hF⟩ := I.fr
  subst hn
  obtain ⟨h1, hB⟩ := He.ba hB
  obtain ⟨h2, hB⟩ := He.ba hB
  obtain ⟨h3, hB⟩ := He.ba hB
  obtain ⟨h4, h5⟩ := He.ba hB
  obtain ⟨fo, hfo⟩ := Option.isSome_iff_exists.mp h3
  obtain ⟨ro, hro⟩ := Option.isSome_iff_exists.mp h4
  obtain ⟨rc, hrc, hp⟩ : ∃ rc, PySem.W.findIn X.K (.ref C) (dunderR op.info.2) = some rc ∧ (rc = none ∨ ∃ g : Addr, rc = some (.ref g)) := by
    split at h2
    · rename_i e
      exact ⟨_, e, .inl rfl⟩
    · rename_i g e
      exact ⟨_, e, .inr ⟨g, rfl⟩⟩
    · cases h2
  refine PySem.W.ksp_binT (T := "int") hF I.ok.mod.kin J (show typeOf (.int i t) = pure (.type "int") from rfl) h1 hm.at_ hm.fn hrc hp hfo hro (of_decide_eq_true h5) ?_
  exact wpAny_mono (run_fn (us := [.ref a, .int i t]) (vs := [.ref a, .int i]) F hr hb .nil hx I (.cons rfl (.cons ⟨_, rfl⟩ .nil)) hsp) (fun v s' q => cmpBack_of q) fun _ _ z => z
end
/-! ### list(range(..)) -/
def tLstRgN (te : L2.St → Hp → (Int → Int → Hp → Prop) → Prop) : TE := fun σ H Q => te σ H fun a b H1 => RgOk a b ∧ NewL (rgV a b) H1 Q
theorem pe_listRgN {X : Cx} {e : Expr} {te : L2.St → Hp → (Int → Int → Hp → Prop) → Prop} {p pos : Pos} (hc : X.calm = true) (hg : Gl X "list") (hm : X.mg "list" = none) (he : PRg X e te) (na : starEach [e] X.env = (false, eval e X.env) :: starEach [] X.env := by rfl) :
    PE X (.Call (.Name "list" p) [e] [] pos) (tLstRgN te) := by
  have he' : PRg X e (fun σ H Q => ∃ Q0 : Int → Int → Hp → Prop, te σ H Q0 ∧ ∀ a b H1, Q0 a b H1 → Q a b H1) := fun pins s σ H Q I ⟨Q0, h, f⟩ => thn (he pins s σ H Q0 I h) fun x s' ⟨r, a, b, t, u, v, H', e1, e2, e3, e4⟩ => ⟨r, a, b, t, u, v, H', e1, e2, e3, f _ _ _ e4⟩
  exact (pe_listRg hc hg hm he' na).imp fun σ H Q h => ⟨_, h, fun a b H1 z => ⟨z.1, z.2.go⟩⟩
theorem rgV_ints (n : Nat) : rgV 0 (n : Int) = ((List.range n).map fun k : Nat => (k : Int)).map V.int := by
  unfold rgV
  rw [List.map_map, Int.sub_zero, Int.toNat_natCast]
  refine List.map_congr_left fun k _ => ?_
  show V.int (0 + (k : Int)) = V.int (k : Int)
  rw [Int.zero_add]
/-! ### a or b by truth, where both ways meet -/
def tOrTJ (K : PySem.W.Frag) (ta tb : TE) : TE := fun σ H Q => ∃ J : V → Hp → Prop, (ta σ H fun x H1 => ∃ k, TruV K x H1 k ∧ if k = true then J x H1 else tb σ H1 J) ∧ ∀ v H', J v H' → Q v H'
theorem pe_orTJ {X : Cx} {K : PySem.W.Frag} {a b : Expr} {rest : List Expr} {ta tb : TE} {pos : Pos} (ha : PE X a ta) (hb : PE X (.BoolOp .Or (b :: rest) pos) tb) (hK : X.K = K := by rfl) : PE X (.BoolOp .Or (a :: b :: rest) pos) (tOrTJ K ta tb) := by
  subst hK
  exact ⟨fun pins s σ H Q I ⟨J, h, f⟩ => thn ((pe_orT ha hb).run pins s σ H J I h) fun u s1 ⟨v, H1, I1, r, q⟩ => ⟨v, H1, I1, r, f _ _ q⟩⟩
/-- x, (y, z) -/
theorem pg_nest {X : Cx} {K : PySem.W.Frag} {i j k : Nat} {x y z : Str} {p1 p2 p3 p4 pos : Pos} {kk k2 : Nat} (hc : X.calm = true) (hN : X.N.Nodup) (hi : X.N[i]? = some x) (hj : X.N[j]? = some y) (hk : X.N[k]? = some z) (hx : Loc X.env.scope x) (hy : Loc X.env.scope y) (hz : Loc X.env.scope z)
    (hf : X.fn x = true ∨ X.env.scope.names.lookup x = some .local := by first | exact .inl rfl | exact .inr rfl | assumption) (hf2 : X.fn y = true ∨ X.env.scope.names.lookup y = some .local := by first | exact .inl rfl | exact .inr rfl | assumption) (hf3 : X.fn z = true ∨ X.env.scope.names.lookup z = some .local := by first | exact .inl rfl | exact .inr rfl | assumption) (hK : X.K = K := by rfl) :
    PG X (.Tuple [.Name x p1, .Tuple [.Name y p2, .Name z p3] k2 p4] kk pos) (gTup K 2 (gCons (gName i) (gCons (gTup K 2 (gCons (gName j) (gCons (gName k) gNil))) gNil))) :=
  hK ▸ pg_tup hc (pgs_cons (pg_name hN hi hx hf) (pgs_cons (pg_tup hc (pgs_cons (pg_name hN hj hy hf2) (pgs_cons (pg_name hN hk hz hf3) pgs_nil))) pgs_nil))
/-! ### x, y, z = a, b, c with plain local names; a cut in a block -/
def tPar3 (i j k : Nat) (ta : TA) : TS := fun D σ H => ta σ H fun vs H1 => ∃ v w z, vs = [v, w, z] ∧ D.nx (((σ.set i (some v)).set j (some w)).set k (some z)) H1
theorem ps_par3 {X : Cx} {i j k : Nat} {x y z : Str} {a b c : Expr} {ta : TA} {px py pz pt pos : Pos} {kt k2 pt2} (hc : X.calm = true) (hN : X.N.Nodup) (hi : X.N[i]? = some x) (hj : X.N[j]? = some y) (hk : X.N[k]? = some z) (hij : i ≠ j) (hik : i ≠ k) (hjk : j ≠ k)
    (hx : X.env.scope.names.lookup x = some .local) (hy : X.env.scope.names.lookup y = some .local) (hz : X.env.scope.names.lookup z = some .local) (ha : PA X [a, b, c] ta)
    (hw : swappedStores [.Tuple [.Name x px, .Name y py, .Name z pz] kt pt] (.Tuple [a, b, c] k2 pt2) X.env = pure (some [x, y, z]))
    (hs : swapsWithSole [.Tuple [.Name x px, .Name y py, .Name z pz] kt pt] (.Tuple [a, b, c] k2 pt2) pos.line X.env = pure false := by rfl) :
    PS X (.Assign [.Tuple [.Name x px, .Name y py, .Name z pz] kt pt] (.Tuple [a, b, c] k2 pt2) pos) (tPar3 i j k ta) := by
  refine ⟨fun pins s σ H D I h => ?_⟩
  rw [exec_Assign_arm]
  refine wpAny_bind (wpAny_standAt ?_)
  rw [hs]
  refine wpAny_bind (wpAny_pure ?_)
  rw [if_neg (by decide)]
  refine wpAny_bind (Tuple_ (thn (ha.run _ pins s σ H _ I h) fun us s1 ⟨vs, H1, I1, r1, q1⟩ => ?_))
  obtain ⟨v, w, u, e1, q1⟩ := q1
  subst e1
  obtain ⟨u1, u2, u3, rfl, rv, rw', ru⟩ : ∃ u1 u2 u3, us = [u1, u2, u3] ∧ RelV v u1 ∧ RelV w u2 ∧ RelV u u3 := by
    cases r1 with
    | cons p q =>
      cases q with
      | cons p' q' =>
        cases q' with
        | cons p'' q'' =>
          cases q''
          exact ⟨_, _, _, rfl, p, p', p''⟩
  refine wpAny_newObj_type ?_ (by show 3 ≤ sizeLine; decide)
  have I2 : Inv X pins σ H1 { s1 with heap := s1.heap.push { cls := .type "tuple", data := .seq [u1, u2, u3].toArray } } := I1.kept (t' := s1.toks) fun b o e => Heap.get?_push_of_some _ e
  rw [hw]
  refine wpAny_bind (wpAny_pure ?_)
  show wpAny (model X.prog X.w) X.A (do rule "assign.swapped-stores"; let items ← unpackItems (.ref s1.heap.objs.size) 3 none; assignInOrder [fun v => bindName X.env z v, fun v => bindName X.env y v, fun v => bindName X.env x v] items.reverse; pure Flow.next) _ _ _
  refine wpAny_bind (wpAny_rule (wpAny_bind (unpackItems_tuple (items := #[u1, u2, u3]) (I.ok.hd hc) (IsTup.new s1.heap _) fun h' hx' => ?_)))
  have I3 := I2.kept (h' := h') (t' := s1.toks) fun b o e => hx' b o (Nat.ne_of_lt (Heap.lt_size e)) e
  show wpAny _ _ (assignInOrder [fun v => bindName X.env z v, fun v => bindName X.env y v, fun v => bindName X.env x v] [u3, u2, u1] >>= fun _ => pure Flow.next) _ _ _
  refine wpAny_bind (assignInOrder_cons (wpAny_bindName (store_ok I3 hN hk (.inl hz) ru (fun s2 I4 => ?_) (.inr hz))))
  refine assignInOrder_cons (wpAny_bindName (store_ok I4 hN hj (.inl hy) rw' (fun s3 I5 => ?_) (.inr hy)))
  refine assignInOrder_cons (wpAny_bindName (store_ok I5 hN hi (.inl hx) rv (fun s4 I6 => assignInOrder_nil (wpAny_pure ?_)) (.inr hx)))
  have e : (((σ.set k (some u)).set j (some w)).set i (some v)) = ((σ.set i (some v)).set j (some w)).set k (some u) := by
    rw [List.set_comm _ _ hjk.symm, List.set_comm _ _ hik.symm, List.set_comm _ _ hij.symm]
  rw [e] at I6
  exact ⟨_, H1, I6, q1⟩
/-- J holds where the first statement hands on to the others -/
def tCut (t u : TS) : TS := fun D σ H => ∃ J : L2.St → Hp → Prop, t { D with nx := J } σ H ∧ ∀ σ' H', J σ' H' → u D σ' H'
theorem pss_cut {X : Cx} {st : Stmt} {rest : List Stmt} {t u : TS} (h1 : PS X st t) (h2 : PSs X rest u) : PSs X (st :: rest) (tCut t u) := by
  refine ⟨fun pins s σ H D I ⟨J, h, f⟩ => ?_⟩
  refine wpAny_execs_cons (thn (h1.run pins s σ H { D with nx := J } I h) fun f' s1 q => ?_)
  cases f' with
  | next =>
    obtain ⟨σ', H', I', q⟩ := q
    exact h2.run pins s1 σ' H' D I' (f _ _ q)
  | ret v => exact q
  | brk => exact q
  | cont => exact q
end Pl

set_option Elab.async false
set_option linter.all false
set_option maxRecDepth 100000
set_option maxHeartbeats 2000000
/-! list(zip(xs, ys)) of two lists -/
namespace RZ
open PySem
open PySem.Sem (wp)
theorem zip_no_len : typeLookup (.type "zip") "__len__" = pure none := am_miss_of_fast (by decide +kernel)
theorem zip_no_hint : typeLookup (.type "zip") "__length_hint__" = pure none := am_miss_of_fast (by decide +kernel)
theorem hi_ne {a T lo : Nat} (h : a < lo) (l : lo ≤ T) : T ≠ a := Nat.ne_of_gt (Nat.lt_of_lt_of_le h l)
/-- item j of what is made so far -/
def ZIt (h : Heap) (xs ys : Array Value) (lo : Nat) (j : Nat) (v : Value) : Prop := ∃ T x y, v = .ref T ∧ IsPair h T x y ∧ xs[j]? = some x ∧ ys[j]? = some y ∧ lo ≤ T
/-- where a zip of two lists stands behind k items -/
structure ZSt (h : Heap) (z TI TO i1 i2 l1 l2 : Addr) (xs ys : Array Value) (lo k : Nat) : Prop where
  pi : IsPair h TI (.ref i1) (.ref i2)
  a1 : h.IsListIter i1 l1 k
  a2 : h.IsListIter i2 l2 k
  b1 : h.IsList l1 xs
  b2 : h.IsList l2 ys
  zz : (IsZip h z TI TO .none ∧ ∃ a b, IsPair h TO a b) ∨ ∃ T f oT, IsZipHeld h z TI TO T f ∧ h.get? T = some oT ∧ lo ≤ T
section
variable {prog : Program} {w : World} {A : Around} {E : Value → Shared → Prop} {s : Shared} {z TI TO i1 i2 l1 l2 S : Addr} {xs ys : Array Value}
theorem ZSt.keep {h h' : Heap} {lo k : Nat} (Z : ZSt h z TI TO i1 i2 l1 l2 xs ys lo k) (hS : S < lo) (ne : S ≠ z ∧ S ≠ TI ∧ S ≠ TO ∧ S ≠ i1 ∧ S ≠ i2 ∧ S ≠ l1 ∧ S ≠ l2) (e : ∀ b o, b ≠ S → h.get? b = some o → h'.get? b = some o) : ZSt h' z TI TO i1 i2 l1 l2 xs ys lo k := by
  obtain ⟨n1, n2, n3, n4, n5, n6, n7⟩ := ne
  have ex : Heap.ExtBut S h h' := fun b o hb q => e b o hb q
  refine ⟨e _ _ (Ne.symm n2) Z.pi, Z.a1.extBut ex (Ne.symm n4), Z.a2.extBut ex (Ne.symm n5), Z.b1.extBut ex (Ne.symm n6), Z.b2.extBut ex (Ne.symm n7), ?_⟩
  rcases Z.zz with ⟨q, a, b, r⟩ | ⟨T, f, oT, q, r, l⟩
  · exact .inl ⟨e _ _ (Ne.symm n1) q, a, b, e _ _ (Ne.symm n3) r⟩
  · exact .inr ⟨T, f, oT, e _ _ (Ne.symm n1) q, e _ _ (Nat.ne_of_gt (Nat.lt_of_lt_of_le hS l)) r, l⟩
theorem znext_item {lo k : Nat} {x y : Value} {Q : Option Value → Shared → Prop} (D : ZipApart z TI TO i1 i2 l1 l2) (hl : lo ≤ s.heap.objs.size) (lt : z < lo ∧ TI < lo ∧ TO < lo ∧ i1 < lo ∧ i2 < lo) (Z : ZSt s.heap z TI TO i1 i2 l1 l2 xs ys lo k) (hx : xs[k]? = some x) (hy : ys[k]? = some y)
    (hQ : ∀ h', ZSt h' z TI TO i1 i2 l1 l2 xs ys lo (k + 1) → IsPair h' s.heap.objs.size x y → h'.objs.size = s.heap.objs.size + 1 → (∀ c o, c ≠ z → c ≠ TO → c ≠ i1 → c ≠ i2 → s.heap.get? c = some o → h'.get? c = some o) → Q (some (.ref s.heap.objs.size)) { s with heap := h' }) :
    wpAny (model prog w) A (pyNext (.ref z)) Q E s := by
  obtain ⟨g1, g2, g3, g4, g5⟩ := lt
  have gone : ∀ {h' : Heap}, (∀ c o, c ≠ z → c ≠ TO → c ≠ i1 → c ≠ i2 → s.heap.get? c = some o → h'.get? c = some o) → IsPair h' TI (.ref i1) (.ref i2) ∧ h'.IsList l1 xs ∧ h'.IsList l2 ys := fun {h'} e => by
    refine ⟨e _ _ D.TIz D.TITO D.TIi1 D.TIi2 Z.pi, ?_, ?_⟩
    · obtain ⟨o, q, r⟩ := Z.b1
      exact ⟨o, e _ _ D.l1z D.l1TO D.l1i1 D.l1i2 q, r⟩
    · obtain ⟨o, q, r⟩ := Z.b2
      exact ⟨o, e _ _ D.l2z D.l2TO D.l2i1 D.l2i2 q, r⟩
  rcases Z.zz with ⟨q, a, b, r⟩ | ⟨T, f, oT, q, r, l⟩
  · refine wpAny_pyNext_zip_item D q Z.pi r Z.a1 Z.a2 Z.b1 Z.b2 hx hy fun h' e1 e2 e3 e4 e5 e6 e7 => ?_
    obtain ⟨u1, u2, u3⟩ := gone e7
    exact hQ h' ⟨u1, e3, e4, u2, u3, .inr ⟨_, false, _, e1, e5, hl⟩⟩ e5 e6 e7
  · refine wpAny_pyNext_zip_item_held D q r Z.pi Z.a1 Z.a2 Z.b1 Z.b2 hx hy fun h' e1 e3 e4 e5 e6 e7 => ?_
    have e8 : ∀ c o, c ≠ z → c ≠ TO → c ≠ i1 → c ≠ i2 → s.heap.get? c = some o → h'.get? c = some o := fun c o c1 _ c3 c4 q => e7 c o c1 c3 c4 q
    obtain ⟨u1, u2, u3⟩ := gone e8
    exact hQ h' ⟨u1, e3, e4, u2, u3, .inr ⟨T, true, oT, e1, e7 _ _ (hi_ne g1 l) (hi_ne g4 l) (hi_ne g5 l) r, l⟩⟩ e5 e6 e8
theorem znext_end {lo k : Nat} {Q : Option Value → Shared → Prop} (hh : A.handled = none) (D : ZipApart z TI TO i1 i2 l1 l2) (Z : ZSt s.heap z TI TO i1 i2 l1 l2 xs ys lo k) (hend : xs[k]? = none ∨ ys[k]? = none)
    (hQ : ∀ h', (∀ c o, c ≠ z → c ≠ TO → c ≠ i1 → c ≠ i2 → s.heap.get? c = some o → h'.get? c = some o) → Q none { s with heap := h' }) : wpAny (model prog w) A (pyNext (.ref z)) Q E s := by
  rcases Z.zz with ⟨q, a, b, r⟩ | ⟨T, f, oT, q, r, l⟩
  · exact wpAny_pyNext_zip_end hh D q Z.pi r Z.a1 Z.a2 Z.b1 Z.b2 hend hQ
  · exact wpAny_pyNext_zip_end_held hh D q r Z.pi Z.a1 Z.a2 Z.b1 Z.b2 hend fun h' e => hQ h' fun c o c1 _ c3 c4 q => e c o c1 c3 c4 q
theorem ZIt.keep {h h' : Heap} {lo j : Nat} {v : Value} (Z : ZIt h xs ys lo j v) (e : ∀ b o, lo ≤ b → h.get? b = some o → h'.get? b = some o) : ZIt h' xs ys lo j v := by
  obtain ⟨T, x, y, h1, h2, h3, h4, h5⟩ := Z
  exact ⟨T, x, y, h1, e _ _ h5 h2, h3, h4, h5⟩
theorem zloop {R : Result → Shared → Prop} {n lo : Nat} {res : Value} (hh : A.handled = none) (D : ZipApart z TI TO i1 i2 l1 l2) (hn : n = min xs.size ys.size) (hn2 : n ≤ 100000) (lt : z < lo ∧ TI < lo ∧ TO < lo ∧ i1 < lo ∧ i2 < lo) (hS : S < lo)
    (ne : S ≠ z ∧ S ≠ TI ∧ S ≠ TO ∧ S ≠ i1 ∧ S ≠ i2 ∧ S ≠ l1 ∧ S ≠ l2) :
    ∀ (k i : Nat) (s : Shared) (acc : Array Value) (c : Nat), n - i = k → i ≤ n → lo ≤ s.heap.objs.size → ZSt s.heap z TI TO i1 i2 l1 l2 xs ys lo i → s.heap.get? S = some { cls := .type "list", dict := none, data := .seq acc c, slots := #[] } → acc.size = i → (∀ j v, acc[j]? = some v → ZIt s.heap xs ys lo j v) →
    (∀ (h' : Heap) (tk : Nat) (acc' : Array Value) (c' : Nat), (∀ b o, b ≠ S → b ≠ z → b ≠ TO → b ≠ i1 → b ≠ i2 → s.heap.get? b = some o → h'.get? b = some o) → h'.get? S = some { cls := .type "list", dict := none, data := .seq acc' c', slots := #[] } → acc'.size = n → (∀ j v, acc'[j]? = some v → ZIt h' xs ys lo j v) →
      R (.ok (.ret res)) { s with heap := h', toks := tk }) →
    codeAny (model prog w) A (.builtin "list.extend.loop" ⟨[.ref S, .ref z, res], []⟩) R s := by
  obtain ⟨g1, g2, g3, g4, g5⟩ := id lt
  obtain ⟨n1, n2, n3, n4, n5, n6, n7⟩ := id ne
  intro k
  induction k with
  | zero =>
    intro i s acc c hk hi hlo hst hS' hsz hacc hR
    have hin : i = n := by omega
    refine codeAny_builtin F.entry_extend_loop ?_
    rw [Around.under_plainId F.plain_extend_loop _]
    show wpAny _ A.in1 (pyNext (.ref z) >>= _) _ _ s
    refine wpAny_bind (znext_end (A := A.in1) hh D hst ?_ fun h' e => ?_)
    · rcases Nat.lt_or_ge xs.size ys.size with q | q
      · exact .inl (Array.getElem?_eq_none (by omega))
      · exact .inr (Array.getElem?_eq_none (by omega))
    · refine wpAny_pure (hR h' s.toks acc c (fun b o _ c1 c2 c3 c4 q => e b o c1 c2 c3 c4 q) (e _ _ n1 n3 n4 n5 hS') (by omega) fun j v q => (hacc j v q).keep fun b o hb q2 => e b o (hi_ne g1 hb) (hi_ne g3 hb) (hi_ne g4 hb) (hi_ne g5 hb) q2)
  | succ k ih =>
    intro i s acc c hk hi hlo hst hS' hsz hacc hR
    have hlt : i < n := by omega
    have hx : xs[i]? = some xs[i] := Array.getElem?_eq_getElem (by omega)
    have hy : ys[i]? = some ys[i] := Array.getElem?_eq_getElem (by omega)
    refine codeAny_builtin F.entry_extend_loop ?_
    rw [Around.under_plainId F.plain_extend_loop _]
    show wpAny _ A.in1 (pyNext (.ref z) >>= _) _ _ s
    refine wpAny_bind (znext_item (A := A.in1) D hlo lt hst hx hy fun h' Z' hp hz e => ?_)
    have hS2 := e _ _ n1 n3 n4 n5 hS'
    show wpAny _ A.in1 (updateSeq S (·.push (.ref s.heap.objs.size)) >>= _) _ _ _
    refine wpAny_bind ?_
    have oth : ∀ b o, b ≠ S → h'.get? b = some o → (h'.update S (Obj.mapSeq (·.push (.ref s.heap.objs.size)))).get? b = some o := fun b o hb q => (Heap.get?_update_other _ _ (Ne.symm hb)).trans q
    refine wpAny_updateSeq hS2 rfl (wpAny_pure ⟨plainId_quiet F.plain_extend_loop _, ih (i + 1) _ (acc.push (.ref s.heap.objs.size)) _ (by omega) hlt ?_ (Z'.keep hS ne oth) (Heap.get?_update_self _ hS2 rfl) (by rw [Array.size_push, hsz]) (fun j v q => ?_) fun h'' tk acc' c' k' e1 e2 e3 => ?_⟩)
      (by rw [hsz]; have := Pl.small (show i + 1 ≤ 1000000 by omega); omega) (by show (acc.push _).size ≤ sizeLine + 1; rw [Array.size_push, hsz]; have := Pl.small (show i + 1 ≤ 1000000 by omega); omega)
    · show lo ≤ (h'.update S _).objs.size
      rw [Heap.size_update, hz]
      omega
    · have hj := (Array.getElem?_eq_some_iff.mp q).1
      rw [Array.size_push] at hj
      have keep : ∀ b o, lo ≤ b → s.heap.get? b = some o → (h'.update S (Obj.mapSeq (·.push (.ref s.heap.objs.size)))).get? b = some o := fun b o hb q => oth b o (hi_ne hS hb) (e b o (hi_ne g1 hb) (hi_ne g3 hb) (hi_ne g4 hb) (hi_ne g5 hb) q)
      by_cases hji : j = acc.size
      · subst hji
        rw [Array.getElem?_push_size] at q
        cases q
        exact ⟨_, _, _, rfl, oth _ _ (hi_ne hS hlo) hp, by rw [hsz]; exact hx, by rw [hsz]; exact hy, hlo⟩
      · rw [Array.getElem?_push_lt (by omega)] at q
        exact (hacc j v (by rw [Array.getElem?_eq_getElem (by omega)]; exact q)).keep keep
    · exact hR h'' tk acc' c' (fun b o c0 c1 c2 c3 c4 q => k' b o c0 c1 c2 c3 c4 (oth b o c0 (e b o c1 c2 c3 c4 q))) e1 e2 e3
end
section
variable {prog : Program} {w : World} {A : Around} {E : Value → Shared → Prop} {s : Shared} {z TI TO i1 i2 l1 l2 S : Addr} {xs ys : Array Value}
theorem hint_zip {o : Obj} {Q : Bool → Shared → Prop} (hz : s.heap.get? z = some o) (hc : o.cls = .type "zip") (h : Q true s) : wpAny (model prog w) A (Builtin.List.listLengthHint (.ref z)) Q E s := by
  unfold Builtin.List.listLengthHint
  refine wpAny_bind (wpAny_specialOf ⟨_, hz, hc⟩ zip_no_len ?_)
  refine wpAny_ite_split (fun hab => absurd hab (by decide)) (fun _ => ?_)
  refine wpAny_ite_split (fun hab => absurd hab (by decide)) (fun _ => ?_)
  refine wpAny_bind (wpAny_specialOf ⟨_, hz, hc⟩ zip_no_hint ?_)
  exact wpAny_pure h
theorem extend_zip {R : Result → Shared → Prop} {n lo : Nat} {res : Value} (c₀ : Nat) (hh : A.handled = none) (D : ZipApart z TI TO i1 i2 l1 l2) (hn : n = min xs.size ys.size) (hn2 : n ≤ 100000) (lt : z < lo ∧ TI < lo ∧ TO < lo ∧ i1 < lo ∧ i2 < lo) (hS : S < lo)
    (ne : S ≠ z ∧ S ≠ TI ∧ S ≠ TO ∧ S ≠ i1 ∧ S ≠ i2 ∧ S ≠ l1 ∧ S ≠ l2) (hlo : lo ≤ s.heap.objs.size) (hst : ZSt s.heap z TI TO i1 i2 l1 l2 xs ys lo 0) (hz : IsZip s.heap z TI TO .none) (hS' : s.heap.get? S = some { cls := .type "list", data := .seq #[] c₀ })
    (hR : ∀ (h' : Heap) (tk : Nat) (acc' : Array Value) (c' : Nat), (∀ b o, b ≠ S → b ≠ z → b ≠ TO → b ≠ i1 → b ≠ i2 → s.heap.get? b = some o → h'.get? b = some o) → h'.get? S = some { cls := .type "list", dict := none, data := .seq acc' c', slots := #[] } → acc'.size = n → (∀ j v, acc'[j]? = some v → ZIt h' xs ys lo j v) →
      R (.ok (.ret res)) { s with heap := h', toks := tk }) :
    wpAny (model prog w) A.in1 (Builtin.List.listExtendWith (.ref S) (.ref z) res)
      (fun fin s' => match fin with | .done f => R (.ok f) s' | .again c' => c'.quiet = true ∧ codeAny (model prog w) A c' R s') (fun e s' => R (.error e) s') s := by
  unfold Builtin.List.listExtendWith
  refine wpAny_bind (wpAny_typeOf (T := "zip") ⟨_, hz, rfl⟩ ?_)
  have h1 : Builtin.List.listSameRef (.ref S) (.ref z) = false := by simp [Builtin.List.listSameRef, ne.1]
  have h2 : (Value.type "zip" == Value.type "list") = false := by decide
  have h3 : (Value.type "zip" == Value.type "tuple") = false := by decide
  simp only [h1, h2, h3, Bool.or_false, Bool.false_eq_true, if_false]
  refine wpAny_bind (wpAny_pyIter_zip hz ?_)
  refine wpAny_bind (wpAny_holding (hint_zip hz rfl ?_))
  refine wpAny_ite_split (fun _ => ?_) (fun hab => by simp at hab)
  refine wpAny_bind (wpAny_rule ?_)
  refine wpAny_bind ?_
  show wpAny _ _ (updateSeq S (·.push .none) >>= fun _ => updateSeq S (·.pop)) _ _ _
  refine wpAny_bind (wpAny_updateSeq hS' rfl ?_)
  have hS2 := Heap.get?_update_self (Obj.mapSeq (·.push Value.none)) hS' rfl
  refine wpAny_updateSeq (hz := by seq_fits) hS2 rfl ?_
  have hS3 := Heap.get?_update_self (Obj.mapSeq (·.pop)) hS2 rfl
  have oth : ∀ b o, b ≠ S → s.heap.get? b = some o → ((s.heap.update S (Obj.mapSeq (·.push Value.none))).update S (Obj.mapSeq (·.pop))).get? b = some o := fun b o hb q => (Heap.get?_update_other _ _ (Ne.symm hb)).trans ((Heap.get?_update_other _ _ (Ne.symm hb)).trans q)
  refine wpAny_pure ⟨plainId_quiet F.plain_extend_loop _, zloop hh D hn hn2 lt hS ne n 0 _ #[] _ (Nat.sub_zero _) (Nat.zero_le _) ?_ (hst.keep hS ne oth) hS3 rfl (fun j v q => by simp at q) fun h' tk acc' c' k' e1 e2 e3 => ?_⟩
  · show lo ≤ ((s.heap.update S _).update S _).objs.size
    rw [Heap.size_update, Heap.size_update]
    exact hlo
  · exact hR h' tk acc' c' (fun b o c0 c1 c2 c3 c4 q => k' b o c0 c1 c2 c3 c4 (oth b o c0 q)) e1 e2 e3
theorem call_list_zip {Q : Value → Shared → Prop} {n : Nat} (hh : A.handled = none) (D : ZipApart z TI TO i1 i2 l1 l2) (hn : n = min xs.size ys.size) (hn2 : n ≤ 100000) (hst : ∀ lo, ZSt s.heap z TI TO i1 i2 l1 l2 xs ys lo 0) (hz : IsZip s.heap z TI TO .none)
    (lt : z < s.heap.objs.size ∧ TI < s.heap.objs.size ∧ TO < s.heap.objs.size ∧ i1 < s.heap.objs.size ∧ i2 < s.heap.objs.size ∧ l1 < s.heap.objs.size ∧ l2 < s.heap.objs.size)
    (hQ : ∀ (h' : Heap) (tk : Nat) (acc' : Array Value) (c' : Nat), (∀ b o, b ≠ z → b ≠ TO → b ≠ i1 → b ≠ i2 → s.heap.get? b = some o → h'.get? b = some o) → h'.get? s.heap.objs.size = some { cls := .type "list", dict := none, data := .seq acc' c', slots := #[] } → acc'.size = n → (∀ j v, acc'[j]? = some v → ZIt h' xs ys (s.heap.objs.size + 1) j v) →
      Q (.ref s.heap.objs.size) { s with heap := h', toks := tk }) :
    wpAny (model prog w) A (call (.type "list") [.ref z]) Q E s := by
  obtain ⟨g1, g2, g3, g4, g5, g6, g7⟩ := lt
  refine callType_codes (Q₁ := fun obj s₁ => obj = .ref s.heap.objs.size ∧ s₁ = { s with heap := s.heap.push { cls := .type "list", data := .seq #[] } }) F.called_list (F.typeCall_list_1 _) F.entry_list_init
    (code_list_new _ ⟨rfl, rfl⟩) fun obj s₁ h₁ => ?_
  obtain ⟨rfl, rfl⟩ := h₁
  have hS : (s.heap.push { cls := .type "list", data := .seq #[] }).get? s.heap.objs.size = some { cls := .type "list", data := .seq #[] } := Heap.get?_push_size _ rfl
  have sz : (s.heap.push { cls := .type "list", data := .seq #[] }).objs.size = s.heap.objs.size + 1 := Heap.size_push ..
  refine ⟨⟨_, hS, rfl⟩, F.args_list_init_2 _ _, ?_⟩
  have pu : ∀ b o, s.heap.get? b = some o → (s.heap.push { cls := .type "list", data := .seq #[] }).get? b = some o := fun b o q => Heap.get?_push_of_some _ q
  show wpAny _ _ (do let old ← Builtin.List.listItems (.ref s.heap.objs.size); Builtin.List.listUpdate (.ref s.heap.objs.size) (fun _ => #[]); letGo old.toList.reverse; Builtin.List.listExtendWith (.ref s.heap.objs.size) (.ref z) .none) _ _ _
  refine wpAny_bind ?_
  unfold Builtin.List.listItems
  refine wpAny_bind (wpAny_seqItems hS rfl (wpAny_pure ?_))
  show wpAny _ _ (updateSeq s.heap.objs.size (fun _ => #[]) >>= fun _ => letGo (#[] : Array Value).toList.reverse >>= fun _ => Builtin.List.listExtendWith (.ref s.heap.objs.size) (.ref z) .none) _ _ _
  refine wpAny_bind (wpAny_updateSeq hS rfl ?_)
  have hS2 := Heap.get?_update_self (Obj.mapSeq (fun _ => (#[] : Array Value))) hS rfl
  have oth : ∀ b o, b ≠ s.heap.objs.size → s.heap.get? b = some o → ((s.heap.push { cls := .type "list", data := .seq #[] }).update s.heap.objs.size (Obj.mapSeq (fun _ => (#[] : Array Value)))).get? b = some o :=
    fun b o hb e => (Heap.get?_update_other _ _ (Ne.symm hb)).trans (pu _ _ e)
  have old : ∀ b o, s.heap.get? b = some o → ((s.heap.push { cls := .type "list", data := .seq #[] }).update s.heap.objs.size (Obj.mapSeq (fun _ => (#[] : Array Value)))).get? b = some o := fun b o e => oth b o (Nat.ne_of_lt (Heap.lt_size e)) e
  refine wpAny_bind (wpAny_letGo ?_)
  have Z := hst (s.heap.objs.size + 1)
  have up : ∀ {a : Addr}, a < s.heap.objs.size → a < s.heap.objs.size + 1 := fun h => Nat.lt_succ_of_lt h
  refine extend_zip (lo := s.heap.objs.size + 1) _ hh D hn hn2 ⟨up g1, up g2, up g3, up g4, up g5⟩ (Nat.lt_succ_self _) ⟨Nat.ne_of_gt g1, Nat.ne_of_gt g2, Nat.ne_of_gt g3, Nat.ne_of_gt g4, Nat.ne_of_gt g5, Nat.ne_of_gt g6, Nat.ne_of_gt g7⟩ ?_ ?_ (old _ _ hz) hS2 fun h' tk acc' c' hk e1 e2 e3 => ?_
  · show _ ≤ ((s.heap.push _).update _ _).objs.size
    rw [Heap.size_update, sz]
    exact Nat.le_refl _
  · refine ⟨old _ _ Z.pi, ?_, ?_, ?_, ?_, .inl ⟨old _ _ hz, ?_⟩⟩
    · exact Z.a1.at fun o q => old _ _ q
    · exact Z.a2.at fun o q => old _ _ q
    · obtain ⟨o, q, r⟩ := Z.b1
      exact ⟨o, old _ _ q, r⟩
    · obtain ⟨o, q, r⟩ := Z.b2
      exact ⟨o, old _ _ q, r⟩
    · rcases Z.zz with ⟨_, a, b, r⟩ | ⟨T, f, oT, q, r, l⟩
      · exact ⟨a, b, old _ _ r⟩
      · have e := (show s.heap.get? z = _ from hz).symm.trans q
        simp [rawInt] at e
  · exact ⟨rfl, hQ h' tk acc' c' (fun b o c1 c2 c3 c4 q => hk b o (Nat.ne_of_lt (Heap.lt_size q)) c1 c2 c3 c4 (old b o q)) e1 e2 e3⟩
end
end RZ
namespace Pl
open PySem PySem.Spec PyProof.Rows L2 RZ
def refOf : Value → Addr
  | .ref a => a
  | _ => 0
def tListZip (K : PySem.W.Frag) (ta : TA) : TE := fun σ H Q => ta σ H fun vs H1 => ∃ a b xs ys, vs = [.ref a, .ref b] ∧ SqL K H1 a xs ∧ SqL K H1 b ys ∧ min xs.length ys.length ≤ 100000 ∧
  ∀ H' S ts, Same H1 H' → H1 S = none → H' S = some (.lst (ts.map V.ref)) → List.length ts = min xs.length ys.length → (∀ (i : Nat) (T : Addr), ts[i]? = some T → ∃ x y, xs[i]? = some x ∧ ys[i]? = some y ∧ H' T = some (.tup [x, y])) → Q (.ref S) H'
theorem pe_listZip {X : Cx} {K : PySem.W.Frag} {e e2 : Expr} {ta : TA} {p1 pos1 p2 pos2 : Pos} (hc : X.calm = true) (hg1 : Gl X "list") (hm1 : X.mg "list" = none) (hg2 : Gl X "zip") (hm2 : X.mg "zip" = none) (ha : PA X [e, e2] ta) (hK : X.K = K := by rfl)
    (na : starEach [.Call (.Name "zip" p2) [e, e2] [] pos2] X.env = (false, eval (.Call (.Name "zip" p2) [e, e2] [] pos2) X.env) :: starEach [] X.env := by rfl)
    (hs : starEach [e, e2] X.env = (false, eval e X.env) :: starEach [e2] X.env := by rfl) (hpl : (backTo pos2 (starEach [e2] X.env)).any (·.1) = false := by rfl) :
    PE X (.Call (.Name "list" p1) [.Call (.Name "zip" p2) [e, e2] [] pos2] [] pos1) (tListZip K ta) := by
  subst hK
  refine ⟨fun pins s σ H Q I h => ?_⟩
  refine Call_ (ld_blt I hg1 hm1 PyProof.Rows.boot_list (PyProof.Rows.callWith_type1 (args_cons ?_ na) na))
  refine Call_ (ld_blt I hg2 hm2 PyProof.Rows.boot_zip (PyProof.Rows.callWith_type1 (thn (ha.run pos2 pins s σ H _ I h) fun us s1 ⟨vs, H1, I1, r1, q1⟩ => ?_) hs hpl))
  obtain ⟨a, b, xs, ys, rfl, hx, hy, hl, q⟩ := q1
  obtain ⟨its, rv, p1', _⟩ := I1.list hx
  obtain ⟨jts, rw', p2', _⟩ := I1.list hy
  rcases r1 with _ | ⟨⟨⟩, _ | ⟨⟨⟩, ⟨⟩⟩⟩
  have la : a < s1.heap.objs.size := p1'.lt
  have lb : b < s1.heap.objs.size := p2'.lt
  have n1 := rv.length
  have n2 := rw'.length
  refine call_zip_2 p1'.isList p2'.isList fun h' hz hTI hTO o1 o2 hsz hk => args_nil ?_
  have ad : ∀ {c k : Nat}, c < s1.heap.objs.size → c ≠ s1.heap.objs.size + k := fun h => Nat.ne_of_lt (Nat.lt_of_lt_of_le h (Nat.le_add_right _ _))
  have D : ZipApart (s1.heap.objs.size + 4) (s1.heap.objs.size + 2) (s1.heap.objs.size + 3) s1.heap.objs.size (s1.heap.objs.size + 1) a b := by
    constructor
    all_goals first
      | exact ad la
      | exact ad lb
      | exact ad (k := 0) la
      | exact ad (k := 0) lb
      | (intro z; exact absurd (show (_ : Nat) = _ from z) (by omega))
  have lh : s1.heap.objs.size < h'.objs.size ∧ s1.heap.objs.size + 1 < h'.objs.size ∧ s1.heap.objs.size + 2 < h'.objs.size ∧ s1.heap.objs.size + 3 < h'.objs.size ∧ s1.heap.objs.size + 4 < h'.objs.size := by
    rw [hsz]
    refine ⟨?_, ?_, ?_, ?_, ?_⟩ <;> omega
  obtain ⟨g0, g1, g2, g3, g4⟩ := lh
  refine call_list_zip (s := { s1 with heap := h' }) (n := min xs.length ys.length) (xs := its.toArray) (ys := jts.toArray) (I1.ok.hd hc) D (by simp only [List.size_toArray]; omega) hl (fun lo => ⟨hTI, o1, o2, ?_, ?_, .inl ⟨hz, _, _, hTO⟩⟩) hz
    ⟨g4, g2, g3, g0, g1, Nat.lt_trans la g0, Nat.lt_trans lb g0⟩ fun h2 tk acc c' hk2 e1 e2 e3 => ?_
  · obtain ⟨o, q, r⟩ := p1'.isList
    exact ⟨o, hk _ _ q, r⟩
  · obtain ⟨o, q, r⟩ := p2'.isList
    exact ⟨o, hk _ _ q, r⟩
  have KK : ∀ b o, s1.heap.get? b = some o → h2.get? b = some o := fun b o q => by
    have lt := Heap.lt_size q
    exact hk2 b o (ad lt) (ad lt) (ad (k := 0) lt) (ad lt) (hk b o q)
  obtain ⟨ts, hts⟩ : ∃ ts : List Addr, ts = acc.toList.map refOf := ⟨_, rfl⟩
  have itm : ∀ (j : Nat) (T : Addr), ts[j]? = some T → acc[j]? = some (.ref T) ∧ ∃ (x y : V) (u v : Value), xs[j]? = some x ∧ ys[j]? = some y ∧ RelV x u ∧ RelV y v ∧ IsPair h2 T u v ∧ s1.heap.objs.size < T := fun j T hj => by
    rw [hts, List.getElem?_map] at hj
    cases hv : acc[j]? with
    | none =>
      rw [Array.getElem?_toList, hv] at hj
      cases hj
    | some v =>
      rw [Array.getElem?_toList, hv] at hj
      obtain ⟨T', u, w', rfl, hp, h3, h4, h5⟩ := e3 j v hv
      cases hj
      have hj2 : j < min xs.length ys.length := by
        rw [← e2]
        exact (Array.getElem?_eq_some_iff.mp hv).1
      have hxj : xs[j]? = some xs[j] := List.getElem?_eq_getElem (by omega)
      have hyj : ys[j]? = some ys[j] := List.getElem?_eq_getElem (by omega)
      obtain ⟨u', hu, ru⟩ := rv.get hxj
      obtain ⟨w2, hw, rw2⟩ := rw'.get hyj
      have q1 : its[j]? = some u := by simpa using h3
      have q2 : jts[j]? = some w' := by simpa using h4
      rw [hu] at q1
      rw [hw] at q2
      cases q1
      cases q2
      exact ⟨rfl, _, _, _, _, hxj, hyj, ru, rw2, hp, Nat.lt_of_lt_of_le (Nat.lt_trans g0 (Nat.lt_succ_self _)) h5⟩
  have hacc : acc.toList = ts.map Value.ref := by
    refine List.ext_getElem? fun j => ?_
    rw [List.getElem?_map]
    cases hj : ts[j]? with
    | none =>
      rw [hts, List.getElem?_map] at hj
      rw [Option.map_eq_none_iff.mp hj]
      rfl
    | some T =>
      rw [Array.getElem?_toList, (itm j T hj).1]
      rfl
  have hlen : ts.length = min xs.length ys.length := by
    rw [hts, List.length_map, Array.length_toList, e2]
  let H' : Hp := fun b => if b < s1.heap.objs.size then H1 b else if b = h'.objs.size then some (.lst (ts.map V.ref)) else open Classical in if hb : ∃ (j : Nat) (x y : V), ts[j]? = some b ∧ xs[j]? = some x ∧ ys[j]? = some y then some (.tup [hb.choose_spec.choose, hb.choose_spec.choose_spec.choose]) else none
  have nS : ¬ h'.objs.size < s1.heap.objs.size := by rw [hsz]; omega
  have HS : H' h'.objs.size = some (.lst (ts.map V.ref)) := by
    show (if h'.objs.size < s1.heap.objs.size then _ else _) = _
    rw [if_neg nS, if_pos rfl]
  have Hold : ∀ b, b < s1.heap.objs.size → H' b = H1 b := fun b hb => if_pos hb
  have same : Same H1 H' := fun b o q => by rw [Hold b (I1.hok.lt q)]; exact q
  have HT : ∀ (j : Nat) (T : Addr), ts[j]? = some T → ∃ x y, xs[j]? = some x ∧ ys[j]? = some y ∧ H' T = some (.tup [x, y]) := fun j T hj => by
    obtain ⟨_, x, y, u, v, hx, hy, ru, rv, hp, lt⟩ := itm j T hj
    refine ⟨x, y, hx, hy, ?_⟩
    have hb : ∃ (j : Nat) (x y : V), ts[j]? = some T ∧ xs[j]? = some x ∧ ys[j]? = some y := ⟨j, x, y, hj, hx, hy⟩
    have ne : T ≠ h'.objs.size := fun z => by
      rw [z] at hp
      have := hp.symm.trans e1
      simp at this
    show (if T < s1.heap.objs.size then _ else _) = _
    rw [if_neg (Nat.not_lt.mpr (Nat.le_of_lt lt)), if_neg ne, dif_pos hb]
    obtain ⟨k1, k2, k3⟩ := hb.choose_spec.choose_spec.choose_spec
    obtain ⟨_, x', y', u', v', hx', hy', ru', rv', hp', _⟩ := itm _ _ k1
    have eo := hp.symm.trans hp'
    have eu : u = u' ∧ v = v' := by simpa using eo
    rw [k2] at hx'
    rw [k3] at hy'
    cases hx'
    cases hy'
    obtain ⟨rfl, rfl⟩ := eu
    have e9 : (hb.choose_spec.choose, hb.choose_spec.choose_spec.choose) = (x, y) := Prod.ext (ru'.inj ru) (rv'.inj rv)
    exact congrArg (fun z : V × V => some (HO.tup [z.1, z.2])) e9
  have hok : HOk X.prog X.w H' h2 := fun b o hb => by
    by_cases lt : b < s1.heap.objs.size
    · rw [Hold b lt] at hb
      exact (I1.hok b o hb).stay (fun c v _ q => KK c v q) (fun c q => same _ _ q) fun c zs q => same _ _ q
    · by_cases eS : b = h'.objs.size
      · rw [eS, HS] at hb
        cases hb
        rw [eS]
        refine ⟨by rw [List.length_map, hlen]; exact small (Nat.le_trans hl (by decide)), acc.toList, c', ?_, ?_⟩
        · rw [hacc]
          have : ∀ l : List Addr, Vals (l.map V.ref) (l.map Value.ref) := fun l => by
            induction l with
            | nil => exact .nil
            | cons a l ih => exact .cons rfl ih
          exact this ts
        · simpa using e1
      · have hb2 : (open Classical in if hb : ∃ (j : Nat) (x y : V), ts[j]? = some b ∧ xs[j]? = some x ∧ ys[j]? = some y then some (HO.tup [hb.choose_spec.choose, hb.choose_spec.choose_spec.choose]) else none) = some o := by
          have h0 : H' b = some o := hb
          have h1 : (if b < s1.heap.objs.size then H1 b else if b = h'.objs.size then some (.lst (ts.map V.ref)) else open Classical in if hb : ∃ (j : Nat) (x y : V), ts[j]? = some b ∧ xs[j]? = some x ∧ ys[j]? = some y then some (.tup [hb.choose_spec.choose, hb.choose_spec.choose_spec.choose]) else none) = some o := h0
          rw [if_neg lt, if_neg eS] at h1
          exact h1
        by_cases hx : ∃ (j : Nat) (x y : V), ts[j]? = some b ∧ xs[j]? = some x ∧ ys[j]? = some y
        · rw [dif_pos hx] at hb2
          obtain ⟨j, x, y, k1, k2, k3⟩ := hx
          obtain ⟨x2, y2, q2, q3, q4⟩ := HT j b k1
          rw [show H' b = some o from hb] at q4
          cases q4
          obtain ⟨_, x3, y3, u, v, hx3, hy3, ru, rv, hp, _⟩ := itm j b k1
          rw [q2] at hx3
          rw [q3] at hy3
          cases hx3
          cases hy3
          exact ⟨by show 2 ≤ sizeLine; decide, [u, v], .cons ru (.cons rv .nil), ⟨_, hp, rfl, _, rfl⟩⟩
        · rw [dif_neg hx] at hb2
          cases hb2
  have un : Un X.fs [] H1 H' s1.heap h2 := by
    refine ⟨fun b o q _ _ _ => KK b o q, fun b o q _ _ _ => ⟨o.slots, KK b o q⟩, fun b o q n _ => by rw [Hold b (Heap.lt_size q)]; exact n, fun b o q _ => ⟨o, KK b o q⟩, fun b zs q => same _ _ q, fun b o u q => same _ _ q, fun b ps q => ⟨#[], by rw [same _ _ q]; simp⟩⟩
  exact ⟨.ref h'.objs.size, H', I1.un un hok, rfl, q H' h'.objs.size ts same (I1.hok.fresh (Nat.not_lt.mp nS)) HS hlen HT⟩
end Pl

set_option Elab.async false
set_option linter.all false
set_option maxRecDepth 100000
set_option maxHeartbeats 2000000
namespace Pl
open PySem PySem.Spec PyProof.Rows L2 RZ
/-! ### lanes that wrap -/
structure Dg (w : Nat) (ds : List Int) : Prop where
  w1 : 1 ≤ w
  w64 : w ≤ 64
  n64 : ds.length ≤ 64
  dig : ∀ d ∈ ds, 0 ≤ d ∧ d < 2 ^ w
def md (w : Nat) (zs : List Int) : List Int := zs.map fun z => z % 2 ^ w
theorem md_length (w : Nat) (zs : List Int) : (md w zs).length = zs.length := List.length_map ..
theorem Dg.md {w : Nat} {zs : List Int} (h1 : 1 ≤ w) (h2 : w ≤ 64) (h3 : zs.length ≤ 64) : Dg w (md w zs) := by
  refine ⟨h1, h2, by rw [md_length]; exact h3, fun d hd => ?_⟩
  obtain ⟨z, _, rfl⟩ := List.mem_map.mp hd
  have hp := pw w
  exact ⟨Int.emod_nonneg _ (by omega), Int.emod_lt_of_pos _ hp⟩
theorem Dg.md_self {w : Nat} {ds : List Int} (h : Dg w ds) : Pl.md w ds = ds := by
  unfold Pl.md
  refine (List.map_congr_left fun d hd => ?_).trans (List.map_id ds)
  exact Int.emod_eq_of_lt (h.dig d hd).1 (h.dig d hd).2
theorem two64 (w : Nat) (h : w ≤ 64) : (2 : Int) ^ w ≤ 2 ^ 64 := by
  obtain ⟨k, hk⟩ : ∃ k, 64 = w + k := ⟨64 - w, by omega⟩
  rw [hk, Int.pow_add]
  have a := pw w
  have b := pw k
  have : (2 : Int) ^ w * 1 ≤ 2 ^ w * 2 ^ k := Int.mul_le_mul_of_nonneg_left (by omega) (by omega)
  omega
theorem Dg.small {w : Nat} {ds : List Int} (h : Dg w ds) : ∀ d ∈ ds, d.natAbs < 2 ^ 64 := fun d hd => by
  have h1 := h.dig d hd
  have h2 := two64 w h.w64
  have h3 : (2 : Int) ^ 64 = ((2 ^ 64 : Nat) : Int) := by decide
  generalize (2 : Int) ^ w = A at *
  generalize (2 : Nat) ^ 64 = B at *
  omega
theorem Dg.val_bits {w : Nat} {ds : List Int} (h : Dg w ds) : (val ds w).natAbs < 2 ^ 4300 := by
  refine Nat.lt_of_lt_of_le (val_small (w := w) ds h.small) (Nat.pow_le_pow_right (by decide) ?_)
  have : (w + 1) * ds.length ≤ 65 * 64 := Nat.mul_le_mul (by have := h.w64; omega) h.n64
  omega
theorem Dg.nonneg {w : Nat} : ∀ {ds : List Int}, (∀ d ∈ ds, 0 ≤ d ∧ d < 2 ^ w) → 0 ≤ val ds w ∧ val ds w < 2 ^ (w * ds.length)
  | [], _ => by
    show (0 : Int) ≤ 0 ∧ (0 : Int) < 2 ^ (w * 0)
    rw [Nat.mul_zero, Int.pow_zero]
    omega
  | d :: ds, h => by
    have ih := Dg.nonneg (w := w) (ds := ds) fun x hx => h x (List.mem_cons_of_mem _ hx)
    have hd := h d List.mem_cons_self
    show 0 ≤ d + 2 ^ w * val ds w ∧ d + 2 ^ w * val ds w < 2 ^ (w * (ds.length + 1))
    rw [Nat.mul_succ, Int.pow_add, Int.mul_comm (2 ^ (w * ds.length))]
    have hp := pw w
    have h1 : 0 ≤ 2 ^ w * val ds w := Int.mul_nonneg (by omega) ih.1
    have h2 : 2 ^ w * (val ds w + 1) ≤ 2 ^ w * 2 ^ (w * ds.length) := Int.mul_le_mul_of_nonneg_left (by omega) (by omega)
    rw [Int.mul_add] at h2
    omega
theorem ent_self (ds : List Int) : ent ds ds.length = ds := by
  refine list_of_get (by unfold ent; rw [List.length_map, List.length_range]) fun n => ?_
  unfold ent
  rw [List.getD_eq_getElem?_getD, List.getElem?_map]
  rcases Nat.lt_or_ge n ds.length with h | h
  · rw [List.getElem?_range h]
    rfl
  · rw [List.getElem?_eq_none (by rw [List.length_range]; exact h), List.getD_eq_getElem?_getD, List.getElem?_eq_none h]
    rfl
theorem Dg.back {w : Nat} {ds : List Int} (h : Dg w ds) : digL (val ds w) w ds.length = ds := by
  have := (digits_iff ds w ds.length).mpr fun i hi => by
    rw [List.getD_eq_getElem?_getD, List.getElem?_eq_getElem hi]
    exact h.dig _ (List.getElem_mem hi)
  rw [this, ent_self]
theorem Dg.inj {w : Nat} {as bs : List Int} (ha : Dg w as) (hb : Dg w bs) (hl : as.length = bs.length) (h : val as w = val bs w) : as = bs := by
  rw [← ha.back, ← hb.back, h, hl]
/-- with 2 ^ w - 1: what stands below -/
theorem and_mask (x : Int) (w : Nat) : Builtin.bitAnd x (2 ^ w - 1) = x % 2 ^ w := by
  have hp := pw w
  have hn : (2 : Int) ^ w - 1 = ((2 ^ w - 1 : Nat) : Int) := by
    have := Nat.pow_pos (n := w) (show 0 < 2 by decide)
    rw [Int.natCast_sub (by omega), Int.natCast_pow]
    rfl
  have ht : ((2 : Int) ^ w - 1).toNat = 2 ^ w - 1 := by rw [hn, Int.toNat_natCast]
  have hm : ((2 ^ w : Nat) : Int) = 2 ^ w := by rw [Int.natCast_pow] <;> rfl
  by_cases hx : 0 ≤ x
  · rw [bitAnd_pp hx (by omega), ht, Nat.and_two_pow_sub_one_eq_mod, Int.natCast_emod, hm, Int.toNat_of_nonneg hx]
  · rw [bitAnd_np hx (by omega), ht, Nat.and_comm, Nat.and_two_pow_sub_one_eq_mod, Int.natCast_emod, hm]
    unfold Builtin.bitNot
    rw [Int.toNat_of_nonneg (by omega)]
    have d1 := Int.emod_add_mul_ediv x (2 ^ w)
    have m0 := Int.emod_nonneg x (show (2 : Int) ^ w ≠ 0 by omega)
    have m1 := Int.emod_lt_of_pos x hp
    have e : (-x - 1) % 2 ^ w = 2 ^ w - 1 - x % 2 ^ w := by
      have : -x - 1 = (2 ^ w - 1 - x % 2 ^ w) + 2 ^ w * (-(x / 2 ^ w) - 1) := by
        generalize x % 2 ^ w = m at *
        generalize x / 2 ^ w = q at *
        generalize (2 : Int) ^ w = B at *
        rw [Int.mul_sub, Int.mul_neg]
        omega
      rw [this, Int.add_mul_emod_self_left]
      exact Int.emod_eq_of_lt (by omega) (by omega)
    rw [e]
    omega
/-! ### objects -/
def WrapF (w n num : Int) : List (Str × V) := [("width", .int w), ("many", .int n), ("number", .int num)]
theorem wrapF_put (w n num : Int) : putF "number" (.int num) (putF "many" (.int n) (putF "width" (.int w) [])) = WrapF w n num := by
  show putF "number" (.int num) (if ("width" : Str) = "many" then [(("width" : Str), V.int n)] else (("width" : Str), V.int w) :: putF "many" (V.int n) []) = _
  rw [if_neg (by decide +kernel)]
  show (if ("width" : Str) = "number" then _ else (("width" : Str), V.int w) :: putF "number" (.int num) (putF "many" (V.int n) [])) = _
  rw [if_neg (by decide +kernel)]
  show (("width" : Str), V.int w) :: (if ("many" : Str) = "number" then _ else (("many" : Str), V.int n) :: putF "number" (.int num) []) = _
  rw [if_neg (by decide +kernel)]
  rfl
theorem wrapF_w (w n num : Int) : (WrapF w n num).lookup ("width" : Str) = some (.int w) := by simp [WrapF, List.lookup]
theorem wrapF_m (w n num : Int) : (WrapF w n num).lookup ("many" : Str) = some (.int n) := by
  unfold WrapF
  rw [List.lookup_cons, show (("many" : Str) == "width") = false by decide +kernel]
  simp [List.lookup]
theorem wrapF_n (w n num : Int) : (WrapF w n num).lookup ("number" : Str) = some (.int num) := by
  unfold WrapF
  rw [List.lookup_cons, show (("number" : Str) == "width") = false by decide +kernel]
  show List.lookup _ [(("many" : Str), V.int n), ("number", .int num)] = _
  rw [List.lookup_cons, show (("number" : Str) == "many") = false by decide +kernel]
  simp [List.lookup]
theorem wrapF_none (w n num : Int) {m : Str} (h : (m == ("width" : Str)) = false) (h2 : (m == ("many" : Str)) = false) (h3 : (m == ("number" : Str)) = false) : (WrapF w n num).lookup m = none := by
  unfold WrapF
  rw [List.lookup_cons, h]
  show List.lookup m [(("many" : Str), V.int n), ("number", .int num)] = none
  rw [List.lookup_cons, h2]
  show List.lookup m [(("number" : Str), V.int num)] = none
  rw [List.lookup_cons, h3]
  rfl
def WrapRaw (K : PySem.W.Frag) (H : Hp) (p : Addr) (w n num : Int) : Prop := ∃ dx, H p = some (.ins (He.ga K "WrapLanes") dx (WrapF w n num))
def WrapAt (K : PySem.W.Frag) (H : Hp) (p : Addr) (w : Nat) (ds : List Int) : Prop := Dg w ds ∧ WrapRaw K H p w ds.length (val ds w)
theorem WrapRaw.same {K : PySem.W.Frag} {H H' : Hp} {p : Addr} {w n num : Int} (s : Same H H') (h : WrapRaw K H p w n num) : WrapRaw K H' p w n num := by
  obtain ⟨dx, h1⟩ := h
  exact ⟨dx, s _ _ h1⟩
theorem WrapAt.same {K : PySem.W.Frag} {H H' : Hp} {p : Addr} {w : Nat} {ds : List Int} (s : Same H H') (h : WrapAt K H p w ds) : WrapAt K H' p w ds := ⟨h.1, h.2.same s⟩
end Pl

set_option Elab.async false
set_option linter.all false
set_option maxRecDepth 100000
set_option maxHeartbeats 2000000
/-! number * x, x an instance with a __rmul__; isinstance(x, C) of a number -/
namespace Pl
open PySem PySem.Spec PyProof.Rows L2 RZ
open PySem.W PySem.Calls in
theorem int_mul_obj (a : Int) (t : Tok) (x C dx : Addr) :
    Meets (Builtin.«int.__mul__» ⟨[.int a t, .ref x], []⟩) (fun _ R s => s.heap.get? x = some (instObj C dx) ∧ R (.ok (.ret Value.notImplemented)) s) :=
  .of_wp fun prog w A R s h => by
    obtain ⟨hp, g, d, tk, os⟩ := s
    obtain ⟨hl, h⟩ := h
    wp_walk
    exact ⟨_, rfl, h⟩
section
open PySem.W PySem.Calls
variable {prog : Program} {w : World} {A : Around} {E : Value → Shared → Prop} {s : Shared} {K : Frag} {x C L f g dx : Addr} {h₀ : Heap} {m : Str → Option Value} {od : Option Obj}
theorem ksp_int_mulR {i : Int} {t : Tok} {Q : Value → Shared → Prop} (Fm : Fr h₀ L s.heap m) (X₀ : K.In h₀) (I : PySem.W.InstAt s.heap x (instObj C dx) C od) (hc : selfFirst K C = true)
    (hs : findIn K (.ref C) "__mul__" = some (some (.ref f))) (hr : findIn K (.ref C) "__rmul__" = some (some (.ref g))) (hf : isFn K (.ref g) = true) (hsub : subIn K (.ref C) (.type "int") = some false)
    (h : wpAny (model prog w) A (call (.ref g) [.ref x, .int i t]) (PySem.W.CmpBack Q) E s) : wpAny (model prog w) A (binaryOp .Mult (.int i t) (.ref x)) Q E s := by
  have X := X₀.keeps Fm.keep
  obtain ⟨cd, rest, hcd, hm⟩ := ksp_first hc
  have ho := I.at_
  have one := ksp_try X I hr hf h
  obtain ⟨hh, gg, d, tt, os⟩ := s
  have L1 : Looks (model prog w) hh (typeOf (.ref x)) (.ref C) := I.type
  have L2 : Looks (model prog w) hh (typeOf (.int i t)) (.type "int") := Looks.of_pure rfl
  have L3 : Looks (model prog w) hh (fillsNumberSlot (.ref C) "mul") true := fills_K X hcd hm hs
  have L4 : Looks (model prog w) hh (fillsNumberSlot (.type "int") "mul") true := Looks.of_pure F.fills_int_mul
  have L5 : Looks (model prog w) hh (isSubtype (.ref C) (.type "int")) false := looks_subIn X hsub
  have L7 : Looks (model prog w) hh (numberSlotInPython (.type "int") "mul") false := Looks.of_pure rfl
  have hne : (Value.type "int" == Value.ref C) = false := Bool.eq_false_iff.mpr fun q => by cases beq_iff_eq.mp q
  simp only [binaryOp, Operator.info]
  refine wpAny_holding (wpAny_bind ?_)
  unfold binaryOp1
  refine wpAny_bind (L2.at (wpAny_bind (L1.at (wpAny_bind (L4.at ?_)))))
  simp only [hne, Bool.false_eq_true, if_false]
  ksp_lk
  refine wpAny_tryMethod_declines (T := "int") (id := "int.__mul__") ?_ ?_ ?_
  · exact typeIs_int _ i t
  · exact F.slot_int_mul
  refine call_meets F.slot_int_mul (typeIs_int _ i t) F.entry_int_mul (F.args_int_mul_2 _ _) (int_mul_obj i t x C dx) ?_
  refine ⟨ho, rfl, ?_⟩
  simp only [Bool.false_eq_true, if_false, Bool.not_false, Bool.and_self, if_true]
  ksp_lk
  refine wpAny_mono one (fun r s' hr' => ?_) fun _ _ e => e
  obtain ⟨v, rfl, hq⟩ := hr'
  ksp_lk
  exact hq
end
/-- i * x -/
def rIOwn (C : Addr) (sp : Sp) (E : XK) : R2 := fun x y H Q => ∃ a dx fs i, x = .int i ∧ y = .ref a ∧ H a = some (.ins C dx fs) ∧ sp [.ref a, .int i] H Q E
def ownIRB (K : PySem.W.Frag) (C : Addr) : Bool := PySem.W.selfFirst K C && ((match PySem.W.findIn K (.ref C) "__mul__" with
    | some (some (.ref _)) => true
    | _ => false) && decide (PySem.W.subIn K (.ref C) (.type "int") = some false))
section
variable {X : Cx} {CX : CXT} {C f : Addr} {fd : FuncData} {ps : List Str} {sp : Sp} {E : XK} {k : Nat}
theorem op_Iown (hm : Meth X.K C "__rmul__" f) (hB : ownIRB X.K C = true) (F : FnOk X.prog X.w X.K X.mg X.base CX k f fd ps sp) (hr : Room k X.A) (hb : Binds X.K fd ps []) (hx : Passes CX X E) : OpR X (binaryOp .Mult) (rIOwn C sp E) := by
  intro pins s σ H x' y v u Q I rx ry h
  obtain ⟨a, dx, fs, i, rfl, rfl, ha, hsp⟩ := h
  obtain ⟨t, rfl⟩ := rx
  cases ry
  obtain ⟨mA, J, _⟩ := ins_get I.hok ha
  obtain ⟨od, J, _⟩ := J.look
  obtain ⟨m, hF⟩ := I.fr
  obtain ⟨h1, hB⟩ := He.ba hB
  obtain ⟨h2, h3⟩ := He.ba hB
  obtain ⟨g, hg⟩ : ∃ g : Addr, PySem.W.findIn X.K (.ref C) "__mul__" = some (some (.ref g)) := by
    split at h2
    · rename_i g e
      exact ⟨g, e⟩
    · cases h2
  refine ksp_int_mulR hF I.ok.mod.kin J h1 hg hm.at_ hm.fn (of_decide_eq_true h3) ?_
  exact wpAny_mono (run_fn (us := [.ref a, .int i t]) (vs := [.ref a, .int i]) F hr hb .nil hx I (.cons rfl (.cons ⟨_, rfl⟩ .nil)) hsp) (fun v s' q => cmpBack_of q) fun _ _ z => z
end
/-- isinstance(x, C), x an instance of C or an int -/
def rIsiI (K : PySem.W.Frag) (C : Addr) : List V → Hp → VK → Prop := fun xs H Q => (∃ b dy gs, xs = [.ref b, .ref C] ∧ H b = some (.ins C dy gs) ∧ Q (.bl true) H) ∨ ∃ i, xs = [.int i, .ref C] ∧ Q (.bl false) H
theorem call_isiKI {X : Cx} {K : PySem.W.Frag} {C : Addr} (cl : Cls K C) (ib : insB K C = true) (ii : (PySem.W.kitOne K (.type "int") (.ref C) == some false) = true) (hK : X.K = K := by rfl) : CallR X (.builtin "isinstance") (rIsiI K C) := by
  subst hK
  have ii := eq_of_beq ii
  intro pins s σ H xs us Q I r h
  rcases h with ⟨b, dy, gs, rfl, hb, q⟩ | ⟨i, rfl, q⟩
  · exact call_isiK cl ib rfl pins s σ H _ us Q I r ⟨b, rfl, .inl ⟨dy, gs, hb, q⟩⟩
  · exact call_isi pins s σ H _ us Q I r ⟨_, _, _, _, false, rfl, .own C, (.base (.int i)), ii, q⟩
end Pl

set_option Elab.async false
set_option maxHeartbeats 2000000
/-! equal modulo W: the right side is found by the shape of the left one -/
namespace Pl
def cg (W x y : Int) : Prop := ∃ k, x = y + W * k
theorem cg.rf {W x : Int} : cg W x x := ⟨0, by rw [Int.mul_zero, Int.add_zero]⟩
theorem cg.add {W a b c d : Int} (h : cg W a b) (g : cg W c d) : cg W (a + c) (b + d) := by
  obtain ⟨k, rfl⟩ := h
  obtain ⟨l, rfl⟩ := g
  exact ⟨k + l, by grind⟩
theorem cg.sub {W a b c d : Int} (h : cg W a b) (g : cg W c d) : cg W (a - c) (b - d) := by
  obtain ⟨k, rfl⟩ := h
  obtain ⟨l, rfl⟩ := g
  exact ⟨k - l, by grind⟩
theorem cg.mul {W a b c d : Int} (h : cg W a b) (g : cg W c d) : cg W (a * c) (b * d) := by
  obtain ⟨k, rfl⟩ := h
  obtain ⟨l, rfl⟩ := g
  exact ⟨k * d + b * l + W * k * l, by grind⟩
theorem cg.neg {W a b : Int} (h : cg W a b) : cg W (-a) (-b) := by
  obtain ⟨k, rfl⟩ := h
  exact ⟨-k, by grind⟩
theorem cg.md {W a b : Int} (h : cg W a b) : cg W (a % W) b := by
  obtain ⟨k, rfl⟩ := h
  refine ⟨k - (b + W * k) / W, ?_⟩
  have := Int.emod_add_mul_ediv (b + W * k) W
  generalize (b + W * k) / W = q at *
  generalize (b + W * k) % W = r at *
  grind
theorem cg.em {W a b p q : Int} (h : cg W a p) (g : cg W b q) (e : p = q) : a % W = b % W := by
  obtain ⟨k, rfl⟩ := h
  obtain ⟨l, rfl⟩ := g
  rw [e, Int.add_mul_emod_self_left, Int.add_mul_emod_self_left]
local macro_rules | `(tactic| exists cgs) => `(tactic| repeat (first | with_reducible apply cg.md | with_reducible apply cg.add | with_reducible apply cg.sub | with_reducible apply cg.mul | with_reducible apply cg.neg | with_reducible exact cg.rf))
local macro_rules | `(tactic| exists cgm) => `(tactic| (apply cg.em; (focus exists cgs); (focus exists cgs); (focus grind)))
theorem t1 (a b W : Int) : ((a + b) % W - b) % W = a % W := by exists cgm
theorem t2 (a b c W : Int) : (a * ((b + c) % W)) % W = ((a * b) % W + (a * c) % W) % W := by exists cgm
theorem t3 (a b W : Int) : (a - b) % W = (-((b - a) % W)) % W := by exists cgm
theorem t4 (a b W : Int) : (a - b) % W = ((a + (-1 - b) % W) % W + 1) % W := by exists cgm
/-- lanes by their worths -/
def ln (w n : Nat) (F : Nat → Int) : List Int := (List.range n).map fun i => F i % 2 ^ w
theorem ln_length (w n : Nat) (F : Nat → Int) : (ln w n F).length = n := by unfold ln; rw [List.length_map, List.length_range]
theorem ln_get {w n i : Nat} {F : Nat → Int} (h : i < n) : (ln w n F).getD i 0 = F i % 2 ^ w := by
  unfold ln
  rw [List.getD_eq_getElem?_getD, List.getElem?_map, List.getElem?_range h]
  rfl
theorem ln_congr {w n : Nat} {F G : Nat → Int} (h : ∀ i, i < n → F i % 2 ^ w = G i % 2 ^ w) : ln w n F = ln w n G := by
  unfold ln
  exact List.map_congr_left fun i hi => h i (List.mem_range.mp hi)
theorem Dg.ln {w : Nat} {as : List Int} (h : Dg w as) : as = Pl.ln w as.length fun i => as.getD i 0 := by
  conv => lhs; rw [← h.md_self]
  unfold Pl.ln Pl.md
  refine List.ext_getElem? fun i => ?_
  rw [List.getElem?_map, List.getElem?_map]
  rcases Nat.lt_or_ge i as.length with l | l
  · rw [List.getElem?_range l, get_of l]
    rfl
  · rw [List.getElem?_eq_none l, List.getElem?_eq_none (by rw [List.length_range]; exact l)]
    rfl
end Pl

set_option Elab.async false
set_option linter.all false
set_option maxRecDepth 100000
set_option maxHeartbeats 2000000
namespace Pl
open PySem PySem.Spec PyProof.Rows L2 RZ
local macro_rules | `(tactic| exists cgs) => `(tactic| repeat (first | with_reducible apply cg.md | with_reducible apply cg.add | with_reducible apply cg.sub | with_reducible apply cg.mul | with_reducible apply cg.neg | with_reducible exact cg.rf))
local macro_rules | `(tactic| exists cgm) => `(tactic| (apply cg.em; (focus exists cgs); (focus exists cgs); (focus grind)))
/-! ### or, xor by and -/
theorem bor (a b : Int) : Builtin.bitOr a b = a + b - Builtin.bitAnd a b := by
  have h := bitXor_and a b
  unfold Builtin.bitXor at h
  omega
theorem band_le {a b : Int} (ha : 0 ≤ a) (hb : 0 ≤ b) : 0 ≤ Builtin.bitAnd a b ∧ Builtin.bitAnd a b ≤ a ∧ Builtin.bitAnd a b ≤ b := by
  rw [bitAnd_pp ha hb]
  have h1 : a.toNat &&& b.toNat ≤ a.toNat := Nat.and_le_left
  have h2 : a.toNat &&& b.toNat ≤ b.toNat := Nat.and_le_right
  omega
theorem bxor_zero {a b : Int} (ha : 0 ≤ a) (hb : 0 ≤ b) : Builtin.bitXor a b = 0 ↔ a = b := by
  rw [bitXor_and]
  have h := band_le ha hb
  constructor
  · intro z
    omega
  · intro z
    subst z
    rw [bitAnd_pp ha ha, Nat.and_self]
    omega
theorem bnot (a : Int) : Builtin.bitNot a = -a - 1 := rfl
/-! ### sum(xs) of a list or a tuple of ints -/
def rSumQ (K : PySem.W.Frag) : List V → Hp → VK → Prop := fun vs H Q => ∃ (a : Addr) (ns : List Int), vs = [V.ref a] ∧ Sq K H a (ns.map V.int) ∧ Q (.int ns.sum) H
theorem call_sumQ {X : Cx} {K : PySem.W.Frag} (hc : X.calm = true) (hK : X.K = K := by rfl) : CallR X (.builtin "sum") (rSumQ K) := by
  subst hK
  intro pins s σ H vs us Q I r h
  obtain ⟨a, ns, rfl, hs, q⟩ := h
  rcases hs with hs | hs
  · exact cr_sum hc pins s σ H _ us Q I r ⟨a, ns, rfl, hs, q⟩
  · obtain ⟨its, rv, hl, _⟩ := I.tuple hs
    rw [Vals.ref1 r]
    have hi := rv.ints
    obtain ⟨xs, e⟩ := hi.allInts.items
    have hn : numsOf (intItems xs).toList = ns := by rw [← e]; exact hi.numsOf
    rw [nums_intItems] at hn
    have hl' : s.heap.IsTuple a (intItems xs) := by rw [← e]; exact hl
    refine PySem.W.ktm_sumG (I.ok.hd hc) hl' fun h' tk t' hk => ?_
    rw [preSum_eq, List.take_of_length_le (by simp), hn]
    exact ⟨.int _, H, I.kept hk, ⟨_, rfl⟩, q⟩
end Pl
namespace Pl
open PySem PySem.Spec PyProof.Rows L2 RZ
theorem bor_pp {a b : Int} (ha : 0 ≤ a) (hb : 0 ≤ b) : Builtin.bitOr a b = ((a.toNat ||| b.toNat : Nat) : Int) := by
  unfold Builtin.bitOr
  have h1 : Builtin.bitNot a < 0 := by unfold Builtin.bitNot; omega
  have h2 : Builtin.bitNot b < 0 := by unfold Builtin.bitNot; omega
  unfold Builtin.bitAnd
  rw [decide_eq_false (show ¬ 0 ≤ Builtin.bitNot a by omega), decide_eq_false (show ¬ 0 ≤ Builtin.bitNot b by omega)]
  have nn : ∀ x : Int, Builtin.bitNot (Builtin.bitNot x) = x := fun x => by unfold Builtin.bitNot; omega
  simp only [nn]
theorem bxor_lt {a b : Int} {w : Nat} (ha : 0 ≤ a) (hb : 0 ≤ b) (ha' : a < 2 ^ w) (hb' : b < 2 ^ w) : 0 ≤ Builtin.bitXor a b ∧ Builtin.bitXor a b < 2 ^ w := by
  have h := band_le ha hb
  have ho := bor_pp ha hb
  have e : ((2 ^ w : Nat) : Int) = 2 ^ w := by rw [Int.natCast_pow] <;> rfl
  have lt : a.toNat ||| b.toNat < 2 ^ w := Nat.or_lt_two_pow (by omega) (by omega)
  refine ⟨by rw [bitXor_and]; omega, ?_⟩
  unfold Builtin.bitXor
  omega
theorem r_less {a b : Int} {w : Nat} (hw : 1 ≤ w) (ha : 0 ≤ a) (hb : 0 ≤ b) (ha' : a < 2 ^ w) (hb' : b < 2 ^ w) : (((if a < b then (1 : Int) else 0) % 2 ^ w + (if b < a then (1 : Int) else 0) % 2 ^ w) % 2 ^ w + (if Builtin.bitXor a b % 2 ^ w = 0 then (1 : Int) else 0) % 2 ^ w) % 2 ^ w = 1 % 2 ^ w := by
  have hx : Builtin.bitXor a b % 2 ^ w = 0 ↔ a = b := by
    rw [← bxor_zero ha hb]
    have h := bxor_lt ha hb ha' hb'
    rw [Int.emod_eq_of_lt h.1 h.2]
  have h2 : (2 : Int) ≤ 2 ^ w := by
    have := two_half hw
    have := pw (w - 1)
    omega
  have h1 : (1 : Int) % 2 ^ w = 1 := Int.emod_eq_of_lt (by decide) (by omega)
  simp only [hx]
  rcases Int.lt_trichotomy a b with h | h | h
  · rw [if_pos h, if_neg (by omega), if_neg (by omega), Int.zero_emod, h1, Int.add_zero, Int.add_zero, h1, h1]
  · rw [if_neg (by omega), if_neg (by omega), if_pos h, Int.zero_emod, h1, Int.add_zero, Int.zero_emod, Int.zero_add, h1]
  · rw [if_neg (by omega), if_pos h, if_neg (by omega), Int.zero_emod, h1, Int.add_zero, Int.zero_add, h1, h1]
theorem r_avg {a b : Int} {w : Nat} (hw : 1 ≤ w) : (((a + b) / 2 % 2 ^ w + (a + b) / 2 % 2 ^ w) % 2 ^ w + Builtin.bitAnd (Builtin.bitXor a b % 2 ^ w) (1 % 2 ^ w) % 2 ^ w) % 2 ^ w = (a + b) % 2 ^ w := by
  have hh := two_half hw
  have h2 : (2 : Int) ≤ 2 ^ w := by
    have := pw (w - 1)
    omega
  rw [show (1 : Int) % 2 ^ w = 1 from Int.emod_eq_of_lt (by decide) (by omega), bitAnd_m1, bitXor_and, Int.emod_emod_of_dvd _ ⟨2 ^ (w - 1), hh⟩]
  rw [show (a + b - 2 * Builtin.bitAnd a b) % 2 = (a + b) % 2 by omega]
  have e : a + b = 2 * ((a + b) / 2) + (a + b) % 2 := by omega
  conv => rhs; rw [e]
  generalize (a + b) / 2 = q
  generalize (a + b) % 2 = r
  have key : ∀ W : Int, ((q % W + q % W) % W + r % W) % W = (2 * q + r) % W := fun W => by
    apply cg.em (p := q + q + r) (q := 2 * q + r)
    · exact (((cg.rf.md.add cg.rf.md).md).add cg.rf.md)
    · exact cg.rf
    · omega
  exact key _
theorem r_sat {a b : Int} {w : Nat} (hw : 1 ≤ w) (ha : 0 ≤ a) (hb : 0 ≤ b) (ha' : a < 2 ^ w) (hb' : b < 2 ^ w) :
    Builtin.bitOr ((a + b) % 2 ^ w) (-((if (a + b) % 2 ^ w < a then (1 : Int) else 0) % 2 ^ w) % 2 ^ w) % 2 ^ w = (if 2 ^ w - 1 < a + b then 2 ^ w - 1 else a + b) % 2 ^ w := by
  have h2 : (2 : Int) ≤ 2 ^ w := by
    have := two_half hw
    have := pw (w - 1)
    omega
  by_cases h : a + b < 2 ^ w
  · rw [Int.emod_eq_of_lt (by omega) h, if_neg (by omega), Int.zero_emod, Int.neg_zero, Int.zero_emod, bor, if_neg (by omega)]
    have : Builtin.bitAnd (a + b) 0 = 0 := by
      have := band_le (a := a + b) (b := 0) (by omega) (by decide)
      omega
    rw [this]
    congr 1
    omega
  · have e : (a + b) % 2 ^ w = a + b - 2 ^ w := by
      rw [← Int.sub_emod_right, Int.emod_eq_of_lt (by omega) (by omega)]
    have e1 : (1 : Int) % 2 ^ w = 1 := Int.emod_eq_of_lt (by decide) (by omega)
    have e2 : (-1 : Int) % 2 ^ w = 2 ^ w - 1 := by
      rw [← Int.add_emod_right, Int.emod_eq_of_lt (by omega) (by omega)]
      omega
    rw [e, if_pos (by omega), e1, e2, bor, and_mask, Int.emod_eq_of_lt (a := a + b - 2 ^ w) (by omega) (by omega), if_pos (by omega)]
    congr 1
    omega
end Pl

set_option Elab.async false
set_option linter.all false
set_option maxRecDepth 100000
set_option maxHeartbeats 2000000
namespace Pl
open PySem PySem.Spec PyProof.Rows L2 RZ
/-! one step of a reading, by its head -/
section
variable {σ : L2.St} {H : Hp} {Q : VK} {D : Ends} {QB : Bool → Hp → Prop}
theorem k_var {i : Nat} {v : V} (h : σ[i]? = some (some v)) (q : Q v H) : tVar i σ H Q := ⟨v, h, q⟩
theorem k_c {v : V} (q : Q v H) : tC v σ H Q := q
theorem k_op {r : R2} {ta tb : TE} (q : ta σ H fun x H1 => tb σ H1 fun y H2 => r x y H2 Q) : tOp r ta tb σ H Q := q
theorem k_un {r : V → Hp → VK → Prop} {ta : TE} (q : ta σ H fun x H1 => r x H1 Q) : tUn r ta σ H Q := q
theorem k_test {t : TE} (q : t σ H fun x H' => ∃ k, x = .bl k ∧ QB k H') : tTest t σ H QB := q
theorem k_tB {t : TE} (q : t σ H fun x H' => ∃ k, x = .bl k ∧ QB k H') : tB t σ H QB := q
theorem k_not {t : TT} (q : t σ H fun c H1 => QB (!c) H1) : tNot t σ H QB := q
theorem k_or {t u : TT} (q : t σ H fun c H1 => if c = true then QB true H1 else u σ H1 QB) : tOr t u σ H QB := q
theorem k_and {t u : TT} (q : t σ H fun c H1 => if c = true then u σ H1 QB else QB false H1) : tAnd t u σ H QB := q
theorem k_yes (q : QB true H) : tYes σ H QB := q
theorem k_andV {ta tb : TE} (q : ta σ H fun x H1 => ∃ c, x = .bl c ∧ if c = true then tb σ H1 Q else Q (.bl false) H1) : tAndV ta tb σ H Q := q
theorem k_orV {ta tb : TE} (q : ta σ H fun x H1 => ∃ c, x = .bl c ∧ if c = true then Q (.bl true) H1 else tb σ H1 Q) : tOrV ta tb σ H Q := q
theorem k_notV {ta : TE} (q : ta σ H fun x H1 => ∃ c, x = .bl c ∧ Q (.bl (!c)) H1) : tNotV ta σ H Q := q
theorem k_if {t : TT} {ta tb : TE} (q : t σ H fun c H1 => if c = true then ta σ H1 Q else tb σ H1 Q) : tIf t ta tb σ H Q := q
theorem k_seq {t u : TS} (q : t { D with nx := u D } σ H) : tSeq t u D σ H := q
theorem k_next (q : D.nx σ H) : tNext D σ H := q
theorem k_drop {te : TE} (q : te σ H fun _ H1 => D.nx σ H1) : tDrop te D σ H := q
theorem k_ret {te : TE} (q : te σ H D.rt) : tRet te D σ H := q
theorem k_retN (q : D.rt .non H) : tRetN D σ H := q
theorem k_ifS {c : TT} {t u : TS} (q : c σ H fun b H1 => if b = true then t D σ H1 else u D σ H1) : tIfS c t u D σ H := q
theorem k_asg {te : TE} {g : TG} (q : te σ H fun x H1 => g x σ H1 D.nx) : tAsg te g D σ H := q
theorem k_name {i : Nat} {x : V} {N : L2.St → Hp → Prop} (q : N (σ.set i (some x)) H) : gName i x σ H N := q
theorem k_nil {R : List V → Hp → Prop} (q : R [] H) : tNil σ H R := q
theorem k_cons {ta : TE} {tr : TA} {R : List V → Hp → Prop} (q : ta σ H fun x H1 => tr σ H1 fun xs H2 => R (x :: xs) H2) : tCons ta tr σ H R := q
theorem k_call {sp : Sp} {dvs : List V} {E : XK} {t : TA} (q : t σ H fun vs H1 => sp (vs ++ dvs) H1 Q E) : tCall sp dvs E t σ H Q := q
theorem k_cb {r : List V → Hp → VK → Prop} {t : TA} (q : t σ H fun vs H1 => r vs H1 Q) : tCB r t σ H Q := q
theorem k_lst {t : TA} (q : t σ H fun xs H1 => xs.length ≤ sizeLine ∧ NewL xs H1 Q) : tLstN t σ H Q := q
theorem k_tup {K : PySem.W.Frag} {t : TA} (q : t σ H fun xs H1 => xs.length ≤ sizeLine ∧ NewT K xs H1 Q) : tTupN K t σ H Q := q
theorem k_bl {b : Bool} {R : Bool → Prop} (q : R b) : ∃ k, V.bl b = .bl k ∧ R k := ⟨b, rfl, q⟩
theorem k_i0 {g : Int → Int → V} {i j : Int} (q : Q (g i j) H) : rI0 g (.int i) (.int j) H Q := ⟨i, j, rfl, rfl, q⟩
theorem k_iC {C : Int → Int → Prop} {g : Int → Int → V} {i j : Int} (c : C i j) (q : Q (g i j) H) : rI C g (.int i) (.int j) H Q := ⟨i, j, rfl, rfl, c, q⟩
theorem k_u {g : Int → V} {i : Int} (q : Q (g i) H) : rU g (.int i) H Q := ⟨i, rfl, q⟩
theorem k_eqI {i j : Int} (q : Q (.bl (decide (V.int i = V.int j))) H) : rEq (.int i) (.int j) H Q := ⟨rfl, q⟩
theorem k_eqB {i j : Bool} (q : Q (.bl (decide (V.bl i = V.bl j))) H) : rEq (.bl i) (.bl j) H Q := ⟨rfl, q⟩
theorem k_neI {i j : Int} (q : Q (.bl (!decide (V.int i = V.int j))) H) : rNe (.int i) (.int j) H Q := ⟨rfl, q⟩
theorem k_isB {a b : Bool} (q : Q (.bl (decide (a = b))) H) : (fun x y H Q => ∃ a b, x = V.bl a ∧ y = V.bl b ∧ Q (V.bl (decide (a = b))) H : R2) (.bl a) (.bl b) H Q := ⟨a, b, rfl, rfl, q⟩
theorem k_ifT {A B : Prop} (q : A) : if true = true then A else B := iteT q
theorem k_ifF {A B : Prop} (q : B) : if false = true then A else B := iteF q
theorem k_ifnT {A B : Prop} (q : A) : if (!false) = true then A else B := iteT q
theorem k_ifnF {A B : Prop} (q : B) : if (!true) = true then A else B := iteF q
theorem k_tt (q : Q (.bl true) H) : Q (.bl (decide True)) H := by rw [decide_eq_true True.intro]; exact q
/-- a method of an instance whose fields are known -/
theorem k_meth {C : Addr} {m : Str} {sp : Sp} {dvs : List V} {E : XK} {ta : TE} {t : TA} (q : ta σ H fun x H1 => ∃ a dx fs, x = .ref a ∧ H1 a = some (.ins C dx fs) ∧ fs.lookup m = none ∧ t σ H1 fun vs H2 => sp (x :: (vs ++ dvs)) H2 Q E) : tMeth C m sp dvs E ta t σ H Q := q
theorem k_ins {C a dx : Addr} {m : Str} {fs : List (Str × V)} {R : V → Prop} (h : H a = some (.ins C dx fs)) (n : fs.lookup m = none) (q : R (.ref a)) : ∃ a' dx fs, V.ref a = .ref a' ∧ H a' = some (.ins C dx fs) ∧ fs.lookup m = none ∧ R (.ref a) := ⟨a, dx, fs, rfl, h, n, q⟩
theorem k_cut {t u : TS} (J : L2.St → Hp → Prop) (q : t { D with nx := J } σ H) (f : ∀ σ' H', J σ' H' → u D σ' H') : tCut t u D σ H := ⟨J, q, f⟩
theorem k_ifJ {c : TT} {t u : TS} (J : L2.St → Hp → Prop) (q : c σ H fun b H1 => if b = true then t { D with nx := J } σ H1 else u { D with nx := J } σ H1) (f : ∀ σ' H', J σ' H' → D.nx σ' H') : tIfJ c t u D σ H := ⟨J, q, f⟩
end
end Pl
namespace Pl
open PySem PySem.Spec PyProof.Rows L2 RZ
theorem same_at {H H' : Hp} {a : Addr} {o : HO} (s : Same H H') (h : H a = some o) : H' a = some o := s _ _ h
theorem same_trans {H H1 H2 : Hp} (s : Same H1 H2) (h : Same H H1) : Same H H2 := Same.trans h s
end Pl
namespace Pl
open PySem PySem.Spec PyProof.Rows L2 RZ
theorem k_bl2 {a b : Bool} {R : Bool → Bool → Prop} (q : R a b) : ∃ c d, V.bl a = .bl c ∧ V.bl b = .bl d ∧ R c d := ⟨a, b, rfl, rfl, q⟩
theorem k_ifdR {α : Type} [DecidableEq α] {a : α} {A B : Prop} (q : A) : if decide (a = a) = true then A else B := by rw [decide_eq_true rfl]; exact iteT q
theorem k_ifdT {c : Prop} [Decidable c] {A B : Prop} (h : c) (q : A) : if decide c = true then A else B := by rw [decide_eq_true h]; exact iteT q
theorem k_ifdF {c : Prop} [Decidable c] {A B : Prop} (h : ¬ c) (q : B) : if decide c = true then A else B := by rw [decide_eq_false h]; exact iteF q
theorem k_ifndT {c : Prop} [Decidable c] {A B : Prop} (h : ¬ c) (q : A) : if (!decide c) = true then A else B := by rw [decide_eq_false h]; exact iteT q
theorem k_ifndF {c : Prop} [Decidable c] {A B : Prop} (h : c) (q : B) : if (!decide c) = true then A else B := by rw [decide_eq_true h]; exact iteF q
theorem k_ifndR {α : Type} [DecidableEq α] {a : α} {A B : Prop} (q : B) : if (!decide (a = a)) = true then A else B := by rw [decide_eq_true rfl]; exact iteF q
theorem k_dR {α : Type} [DecidableEq α] {a : α} {Q : VK} {H : Hp} (q : Q (.bl true) H) : Q (.bl (decide (a = a))) H := by rw [decide_eq_true rfl]; exact q
theorem k_int {i : Int} {R : Int → Prop} (q : R i) : ∃ k, V.int i = .int k ∧ R k := ⟨i, rfl, q⟩
theorem k_ref {a : Addr} {R : Addr → Prop} (q : R a) : ∃ k, V.ref a = .ref k ∧ R k := ⟨a, rfl, q⟩
end Pl
namespace Pl
open PySem PySem.Spec PyProof.Rows L2 RZ
theorem k_fld {K : PySem.W.Frag} {ta : TE} {f : Str} {σ : L2.St} {H : Hp} {Q : VK} (q : ta σ H fun x H1 => ∃ a C dx fs v, x = .ref a ∧ H1 a = some (.ins C dx fs) ∧ Cls K C ∧ NoAttr K C f ∧ fs.lookup f = some v ∧ Q v H1) : tFld K ta f σ H Q := q
end Pl

set_option Elab.async false
set_option linter.all false
set_option maxRecDepth 100000
set_option maxHeartbeats 2000000
/-! own errors two steps above ValueError: super().__init__('..') in their __init__ -/
namespace Pl
open PySem PySem.Spec PyProof.Rows L2 RZ PySem.Calls NdefX
abbrev vw (e : Addr) : Obj := { cls := .type "method-wrapper", dict := none, data := .fields #[.builtin "ValueError.__init__", .ref e], slots := #[] }
theorem vw_ty : typeOf (.builtin "ValueError.__init__") = pure (.type "wrapper_descriptor") := by
  show builtinType _ = _
  rw [builtinType_eq_fast] <;> kernel_rfl
theorem vw_nac : (kfb_private% "nameAndClass") (Value.builtin "ValueError.__init__") = (pure (("__init__" : Str), Value.type "ValueError") : Sem (Str × Value)) := by kernel_rfl
section
open PySem.W
variable {prog : Program} {w : World} {A : Around} {E : Value → Shared → Prop} {h : Heap} {g : Array GenState} {d : Drawn} {t : Nat} {os : OsState}
theorem vw_get {e C : Addr} {P : Fin → Shared → Prop} (hi : W.Looks (model prog w) h (isInstance (.ref e) (.type "ValueError")) true) (q : P (.done (.ret (.ref h.objs.size))) ⟨h.push (vw e), g, d, t, os⟩) :
    wpAny (model prog w) A (Builtin.«wrapper_descriptor.__get__» ⟨[.builtin "ValueError.__init__", .ref e, .ref C], []⟩) P E ⟨h, g, d, t, os⟩ := by
  unfold Builtin.«wrapper_descriptor.__get__»
  refine wpAny_bind (wpAny_of_eq (a := (.builtin "ValueError.__init__", some (.ref e), some (.ref C))) (by first | rfl | kernel_rfl) ?_)
  show wpAny (model prog w) A ((kfb_private% "checkInstance") (.builtin "ValueError.__init__") (.ref e) >>= fun _ => newFields "method-wrapper" [.builtin "ValueError.__init__", .ref e] >>= fun r => ret r) P E _
  refine wpAny_bind ?_
  show wpAny (model prog w) A ((kfb_private% "nameAndClass") (.builtin "ValueError.__init__") >>= _) _ E _
  refine wpAny_bind (wpAny_of_eq vw_nac ?_)
  show wpAny (model prog w) A (isInstance (.ref e) (.type "ValueError") >>= _) _ E _
  exact wpAny_bind (hi.at (KFB.if_not rfl (wpAny_pure (wpAny_bind (wpAny_newObj_type (wpAny_pure q))))))
theorem vw_ga {so e C : Addr} {l₀ l : List Value} {K : Frag} {tk : Tok} {Q : Fin → Shared → Prop} (hso : h.get? so = some (ks_superObj C e C)) (hno : W.Looks (model prog w) h (opaqueClassAbove (.ref C)) none)
    (hC : W.Looks (model prog w) h (mroOf (.ref C)) l₀) (hl : (l₀.dropWhile (· != .ref C)).drop 1 = l) (X : K.In h) (hf : alongIn K "__init__" l = some (some (.builtin "ValueError.__init__"))) (hxC : e ≠ C)
    (hin : W.Looks (model prog w) h (isInstance (.ref e) (.type "ValueError")) true) (hq : Q (.done (.ret (.ref h.objs.size))) ⟨h.push (vw e), g, d, t, os⟩) :
    wpAny (model prog w) A (Builtin.«super.__getattribute__» ⟨[.ref so, .str "__init__" tk], []⟩) Q E ⟨h, g, d, t, os⟩ := by
  have hlk := ESX.slot_wd.lookup
  have hne : (Value.ref e == Value.ref C) = false := by simp [hxC]
  have hn : (("__init__" : Str) == ("__class__" : Str)) = false := by decide +kernel
  have hTf := vw_ty
  have hTi : Shared.TypeIs ⟨h, g, d, t, os⟩ (.builtin "ValueError.__init__") "wrapper_descriptor" := vw_ty
  have hdt : (ks_superObj C e C).data = .fields #[.ref C, .ref e, .ref C] := rfl
  have f0 : (#[.ref C, .ref e, .ref C] : Array Value)[0]? = some (.ref C) := rfl
  have f1 : (#[.ref C, .ref e, .ref C] : Array Value)[1]? = some (.ref e) := rfl
  have f2 : (#[.ref C, .ref e, .ref C] : Array Value)[2]? = some (.ref C) := rfl
  unfold Builtin.«super.__getattribute__»
  repeat (first | (with_reducible refine wpAny_field hso hdt f0 ?_) | (with_reducible refine wpAny_field hso hdt f1 ?_) | (with_reducible refine wpAny_field hso hdt f2 ?_) | (with_reducible refine ks_wpAny_notOpaque hno ?_) | (with_reducible refine Looks.at hC ?_; rw [hl]) | (refine ks_forIn_along X (fun _ _ => rfl) rfl ?_ hf) | (with_reducible refine wpAny_call_entry ESX.slot_wd hTi ESX.entry_wd ?_ (ESX.args_wd _ _ _)) | (with_reducible refine vw_get hin ?_) | (with_reducible refine ⟨_, rfl, ?_⟩) | (simp only [hn, hne, Bool.or_false, Bool.false_eq_true, if_false]) | wp_step | dsimp only)
  all_goals exact hq
theorem vw_method {so e C : Addr} {l₀ l : List Value} {K : Frag} {pl : Sem Bool} {Q : Value × List Value → Shared → Prop} (hso : h.get? so = some (ks_superObj C e C)) (hno : W.Looks (model prog w) h (opaqueClassAbove (.ref C)) none)
    (hC : W.Looks (model prog w) h (mroOf (.ref C)) l₀) (hl : (l₀.dropWhile (· != .ref C)).drop 1 = l) (X : K.In h) (hf : alongIn K "__init__" l = some (some (.builtin "ValueError.__init__"))) (hxC : e ≠ C)
    (hin : W.Looks (model prog w) h (isInstance (.ref e) (.type "ValueError")) true) (hq : Q (.ref h.objs.size, []) ⟨h.push (vw e), g, d, t + 1, os⟩) :
    wpAny (model prog w) A (getMethod (.ref so) "__init__" pl) Q E ⟨h, g, d, t, os⟩ := by
  have hlk := F.ks_slot_super_ga.lookup
  have hcan := F.ks_canon_super_ga
  have hT : ∀ t', (⟨h, g, d, t', os⟩ : Shared).TypeIs (.ref so) "super" := fun _ => ⟨_, hso, rfl⟩
  unfold getMethod
  refine wpAny_bind (wpAny_specialOf (hT _) hlk ?_)
  show wpAny _ _ (if (Manifest.canonical "super.__getattribute__" != "object.__getattribute__") = true then _ else _) _ _ _
  rw [if_pos hcan]
  unfold getAttr getAttrBy
  refine wpAny_bind (wpAny_bind (wpAny_mkText (wpAny_holding (wpAny_bind (wpAny_typeOf (hT _) (wpAny_bind (wpAny_of_eq hlk ?_)))))))
  show wpAny _ _ (getAttrByItsOwn (.ref so) (.str "__init__" t) (.type "super") (.builtin "super.__getattribute__") true false) _ _ _
  unfold getAttrByItsOwn hookBefore callGetattribute boundAndCalled
  refine wpAny_bind (wpAny_of_eq (show (if onTheHeap (.type "super") then typeLookup (.type "super") "__getattr__" else pure none) = pure none from rfl) ?_)
  refine wpAny_bind (wpAny_attempt (wpAny_holding ?_))
  show wpAny _ _ (bindSpecial (.builtin "super.__getattribute__") (.ref so) >>= _) _ _ _
  refine wpAny_bind (wpAny_of_eq (F.ks_slot_super_ga.bind _) ?_)
  refine wpAny_mono (Q := fun v s' => v = .ref h.objs.size ∧ s' = ⟨h.push (vw e), g, d, t + 1, os⟩) (E := fun _ _ => False) (wpAny_call_entry F.ks_slot_super_ga (hT _) F.ks_entry_super_ga (vw_ga hso hno hC hl X hf hxC hin ⟨_, rfl, rfl, rfl⟩) (F.ks_gaArgs_super _ _)) (fun v s' hv => ?_) fun _ _ z => z.elim
  obtain ⟨rfl, rfl⟩ := hv
  exact wpAny_pure (wpAny_pure hq)
end
section
variable {prog : Program} {w : World} {A : Around} {E : Value → Shared → Prop} {h : Heap} {g : Array GenState} {d : Drawn} {t : Nat} {os : OsState}
variable {nm q : Str} {C N : Addr} {bs bm : List Value} {hdct : Bool} {sn : List Str} {sub : List Value} {ab : Bool} {col : Option Bool} {dd : Option Addr} {k0 k1 k2 k3 k5 : Option Value}
/-- the bound ValueError.__init__ is called -/
theorem vw_call {u e t0 : Addr} {rest : List Value} {Q : Value → Shared → Prop} (hC : h.get? C = some (excClassObj nm q C N bs bm hdct sn sub ab col dd k0 k1 k2 k3 k5 "ValueError.__new__")) (he : h.get? e = some (HandSPX.excO C t0)) (hu : h.get? u = some (vw e)) (hrest : rest.length ≤ sizeLine)
    (hq : ∀ h' t1, (∀ b o, b ≠ e → h.get? b = some o → h'.get? b = some o) → h'.get? e = some (HandSPX.excO C t1) → Q .none ⟨h', g, d, t, os⟩) : wpAny (model prog w) A (call (.ref u) rest) Q E ⟨h, g, d, t, os⟩ := by
  refine wpAny_call (codeAny_of_tree ?_)
  show wpAny _ A.in1 (callAny (.ref u) ⟨rest, []⟩) _ _ _
  simp only [callAny]
  refine wpAny_bind (wpAny_load hu ?_)
  simp only [vw, show (Value.type "method-wrapper" == Value.type "method" || Value.type "method-wrapper" == Value.type "builtin_function_or_method" || Value.type "method-wrapper" == Value.type "method-wrapper") = true by decide, if_true]
  refine W.KFB.if_so (by decide) ?_
  refine wpAny_bind (ESX.check_bound F.excBase_ValueError hC he rfl ?_)
  refine wpAny_bind (wpAny_pure (wpAny_pure ?_))
  refine ⟨Code.quiet_builtin _ (by decide +kernel), codeAny_builtin F.excBase_ValueError.initEntry ?_⟩
  rw [Around.under_plainId F.excBase_ValueError.init.plain _]
  wp_walk
  refine hq _ h.objs.size (fun b o hb ho => ?_) ?_
  · rw [Heap.get?_update_other _ _ (Ne.symm hb)]
    exact Heap.get?_push_of_some _ ho
  · rw [Heap.get?_update_self _ (Heap.get?_push_of_some _ he) rfl] <;> rfl
theorem vw_callWith {M : Model} {s : Shared} {pos : Pos} {u x : Addr} {args : List (Bool × Sem Value)} {Q : Value → Shared → Prop} (hplain : args.any (·.1) = false)
    (h : wpAny M A (evalArgs (.ref u) true args []) (fun a s₁ => s₁.heap.get? u = some (vw x) ∧ wpAny M A (call (.ref u) ([] ++ a.pos) a.kw) Q E s₁) E s) : wpAny M A (callWith pos (.ref u) [] args []) Q E s := by
  unfold callWith
  refine wpAny_bind (wpAny_holding (wpAny_mono h (fun a s₁ h₁ => wpAny_bind (wpAny_standAt ?_)) fun _ _ x => x))
  obtain ⟨ho, hcall⟩ := h₁
  simp only [hplain, List.any_nil, Bool.or_false]
  refine wpAny_bind (m := keeperOf (.ref u)) ?_
  unfold keeperOf
  refine wpAny_bind (wpAny_load ho ?_)
  simp only [vw, show (Value.type "method-wrapper" != Value.type "method") = true by decide, show (Value.type "method-wrapper" == Value.type "builtin_function_or_method" || Value.type "method-wrapper" == Value.type "method-wrapper") = true by decide, if_true]
  refine wpAny_pure ?_
  exact wpAny_bind (wpAny_mono hcall (fun r s₂ hr => wpAny_bind (wpAny_holding (wpAny_point (wpAny_pure hr)))) fun _ _ x => x)
end
/-! ### the def itself -/
/-- what the written part says of the class C whose __init__ is at f: cc the cell of its __class__, cda its code -/
structure SupC (P : Program) (K : PySem.W.Frag) (C f cc cda : Addr) : Prop where
  oe : OexC K C
  cell : ∃ cl cld csl, K.lookup cc = some ⟨cl, cld, .cell (some (.ref C)), csl⟩
  code : ∃ ccl cdd vs ccs file tf, K.lookup cda = some ⟨ccl, cdd, .fields vs, ccs⟩ ∧ vs[2]? = some (.str file tf) ∧ ((P.main.file : Str) == file) = true
  sup : PySem.W.nsIn K mainGlobals "super" = some none
  opq : PySem.W.nsIn K cStatics "thirdparty.any" = some none
  top : (P.main.scope.names.lookup ("super" : Str)).isSome = false
  self : PySem.W.mroIn K C (.ref C) = some true
  ini : PySem.W.ks_superIn K C C "__init__" = some (some (.builtin "ValueError.__init__"))
theorem drop_self (C : Addr) (l : List Value) : ((Value.ref C :: l).dropWhile (· != .ref C)).drop 1 = l := by simp [List.dropWhile_cons]
theorem boot_super : bootBuiltins "super" = some (.type "super") := by kernel_rfl
theorem look1 {x y : Str} {c c' : Addr} (h : List.lookup y [(x, c)] = some c') : y = x ∧ c' = c := by
  rw [List.lookup_cons] at h
  by_cases e : y = x
  · subst e
    simp at h
    exact ⟨rfl, h.symm⟩
  · have e2 : (y == x) = false := by simpa using e
    rw [e2] at h
    cases h
abbrev nfS (name qual : Str) (params : Arguments) (body : List Stmt) (scope : Scope) (cc cda : Addr) : NF := ⟨name, qual, params, body, scope, [("__class__", cc)], cda⟩
theorem fn_sup {CX : CXT} {P : Program} {w : World} {K : PySem.W.Frag} {mg : Str → Option Value} {base : Heap} {N : List Str} {ps : List Str} {C f cc cda : Addr} {name qual : Str} {params : Arguments} {rest : List Stmt} {scope : Scope} {dV kV doc pm ct oc : Value}
    {an od : Option Addr} {osl : Array (Option Value)} {p0 p1 p2 p3 p4 p5 : Pos} {m : Str} {j : Nat} {ar : Arg} {sp : Sp} {k : Nat} (T : SupC P K C f cc cda)
    (lk : K.lookup f = some ⟨oc, od, .func (PySem.W.fnX name qual params (.Expr (.Call (.Attribute (.Call (.Name "super" p0) [] [] p1) "__init__" p2) [.Constant (.str m) j p3] [] p4) p5 :: rest) scope [("__class__", cc)] dV kV doc pm an (.ref cda) ct), osl⟩)
    (hcd : PySem.W.codeIn K (.ref cda) qual = true) (S : NScope N ps ["__class__"] scope) (hp : (params.posonlyargs ++ params.args).head? = some ar) (har : ps.head? = some ar.arg) (hks : scope.names.lookup ("super" : Str) = some .globalImplicit)
    (he0 : ∃ pl : Sem Bool, ∀ env : Env, eval (.Call (.Attribute (.Call (.Name "super" p0) [] [] p1) "__init__" p2) [.Constant (.str m) j p3] [] p4) env = (do
      let ov ← attributeBase (.Call (.Name "super" p0) [] [] p1) "__init__" env (eval (.Call (.Name "super" p0) [] [] p1) env)
      standAt p2.atName
      let (f, first) ← holding [ov] (getMethod ov "__init__" pl)
      callWith p4 f first (backTo p4 (starEach [.Constant (.str m) j p3] env)) []))
    (hsw : ∀ env : Env, swapsWith (.Call (.Attribute (.Call (.Name "super" p0) [] [] p1) "__init__" p2) [.Constant (.str m) j p3] [] p4) none p5.line env = pure false)
    (len : ∀ vs H Q E, sp vs H Q E → vs.length = ps.length)
    (hbody : ∀ (A : Around) (outer : List Env) (s : Shared) (H : Hp) (vs : List V) (Q : VK) (E : XK), Room k (A.deeper (envF (nfS name qual params rest scope cc cda) f s.heap.objs.size)) → sp vs H Q E →
      ∃ a ws, vs = .ref a :: ws ∧ H a = some (exo a C none) ∧ ∃ t, PSs (ncx CX P w K mg base N (nfS name qual params rest scope cc cda) f A outer s H E) rest t ∧ t { nx := fun _ H' => Q .non H', rt := Q } (startF N vs [none]) H) :
    FnOk P w K mg base CX (k + 1) f (PySem.W.fnX name qual params (.Expr (.Call (.Attribute (.Call (.Name "super" p0) [] [] p1) "__init__" p2) [.Constant (.str m) j p3] [] p4) p5 :: rest) scope [("__class__", cc)] dV kV doc pm an (.ref cda) ct) ps sp := by
  refine ⟨len, fun A outer s H args us vs Q E hr e0 hb r hsp => ?_⟩
  have hl := len _ _ _ _ hsp
  have KX : K.In s.heap := e0.mod.kin.keeps fun b o e => (e0.bs b o e).1
  have lim : s.heap.NoLimit := e0.mod.nolimit.keeps fun b o e => (e0.bs b o e).1
  obtain ⟨a, ws, ev, ea, t, ht, hq⟩ := hbody A outer s H vs Q E (hr.deeper _) hsp
  obtain ⟨nm, q, Nn, bs, bm, sn, sub, ab, col, dd, k0, k1, k2, k3, k5, hC, hbm⟩ := T.oe.cls
  have hcl : PySem.W.clsIn K C = some { name := nm, bases := bs, mro := .ref C :: bm, ns := Nn, qualname := q, hasDict := true, slotNames := sn, subclasses := sub, abstract := ab, collection := col, hasDel := false } := by unfold PySem.W.clsIn; rw [hC] <;> rfl
  obtain ⟨cl, cld, csl, hcell⟩ := T.cell
  obtain ⟨ccl, cdd, cvs, ccs, file, tf, hcode, hvs, hfile⟩ := T.code
  have C0 : CellsAt [("__class__", cc)] ["__class__"] [none] s.heap H := by
    refine ⟨rfl, fun y c hy => ?_, fun x y c hx hy => ?_, fun i y hy => ?_⟩
    · obtain ⟨_, rfl⟩ := look1 hy
      exact ⟨(e0.bs _ _ (e0.mod.kin _ _ hcell)).2, _, _, KX _ _ hcell, rfl⟩
    · rw [(look1 hx).1, (look1 hy).1]
    · cases i with
      | zero =>
        cases hy
        exact ⟨cc, by simp [List.lookup], fun v hv => by cases hv⟩
      | succ i => simp at hy
  refine PySem.ks_codeAny_call_defAt (binds := ps.zip us) hr.depth (KX _ _ lk) rfl lim (PySem.W.codeRec_of KX hcd) rfl hb S.nocell (fun ⟨n, _⟩ hy => S.par n (List.of_mem_zip hy).1) (fun h₁ hns kp => ?_) S.co S.gen S.kind
  have I : Inv (ncx CX P w K mg base N (nfS name qual params rest scope cc cda) f A outer s H E) [] (startF N vs [none]) H { s with heap := h₁, toks := s.toks + (ps.zip us).length } := inv_startN S hr.hd e0 hl r C0 hns kp
  have K1 : K.In h₁ := KX.keeps kp
  subst ev
  obtain ⟨u0, ur, rfl, ra, rr⟩ : ∃ u0 ur, us = u0 :: ur ∧ RelV (.ref a) u0 ∧ Vals ws ur := by
    cases r with
    | cons p q => exact ⟨_, _, rfl, p, q⟩
  obtain rfl : u0 = Value.ref a := ra
  obtain ⟨t1, hoe⟩ := exo_at I.hok ea
  have hself : ∃ m0, h₁.Ns s.heap.objs.size m0 ∧ m0 ar.arg = some (.ref a) := by
    refine ⟨_, hns, ?_⟩
    cases ps with
    | nil => cases har
    | cons p0 pr =>
      have e : p0 = ar.arg := by simpa using har
      have nd : (p0 :: pr).Nodup := by
        have q := S.nd.sublist (List.take_sublist ((p0 :: pr).length + 1) N)
        rw [show (p0 :: pr).length + 1 = (p0 :: pr).length + (["__class__"] : List Str).length from rfl, S.pre] at q
        exact (List.nodup_append.mp q).1
      rw [← e]
      exact zip_look (i := 0) nd rfl rfl
  have hka : scope.names.lookup ar.arg = some .local := S.par _ (by
    cases ps with
    | nil => cases har
    | cons p0 pr =>
      have e : p0 = ar.arg := by simpa using har
      rw [← e]
      exact List.mem_cons_self)
  have hkc : scope.names.lookup ("__class__" : Str) = some .free := S.frk _ List.mem_cons_self
  have hcC : ∃ oD, h₁.get? C = some oD ∧ oD.data = .cls _ := ⟨_, K1 _ _ hC, rfl⟩
  obtain ⟨pl, he0⟩ := he0
  obtain ⟨m0, hns0, hm0⟩ := hself
  refine ks_wpAt_execs_cons (ks_wpAt_Expr_any (ks_wpAt_MethodCall ?_ (he0 _)) I.quiet (hsw _))
  refine ks_wpAt_super_base hks hkc (by decide +kernel) rfl (K1 _ _ lk) rfl hp rfl (K1 _ _ hcode) rfl hvs hfile T.top ?_
  obtain ⟨mb, hb1, hb2⟩ := e0.mod.blt
  have keep1 : ∀ b o, base.get? b = some o → h₁.get? b = some o := fun b o e => kp b o (e0.bs b o e).1
  refine PySem.W.ks_loadName_global S.kind hks (Calls.loadGlobal_builtin (e0.mod.glob.keeps keep1) (PySem.W.mg_none_of e0.mod.kin e0.mod.glob T.sup) (hb1.keeps keep1) ((hb2 _ (by decide)).trans boot_super) ⟨rfl, ?_⟩)
  refine wpAny_loadName_free S.kind hkc rfl ⟨_, K1 _ _ hcell, rfl⟩ ?_
  refine wpAny_loadName_local S.kind hka hns0 hm0 ?_
  refine ks_wpAny_isType_cls (K1 _ _ hC) rfl ⟨rfl, ?_⟩
  refine ks_wpAny_call_super (K1 _ _ hC) rfl hoe rfl (fun c e => nomatch e) (PySem.W.looks_mroIn K1 T.self) fun h2 e2 k2 => ?_
  have K2 : K.In h2 := K1.keeps k2
  have hoe2 := k2 _ _ hoe
  have I2 : Inv (ncx CX P w K mg base N (nfS name qual params rest scope cc cda) f A outer s H E) [] (startF N (.ref a :: ws) [none]) H { s with heap := h2, toks := s.toks + (ps.zip (Value.ref a :: ur)).length + 1 } := I.kept k2
  have hini : PySem.W.alongIn K "__init__" bm = some (some (.builtin "ValueError.__init__")) := by
    have z := T.ini
    unfold PySem.W.ks_superIn at z
    rw [hcl, Option.bind_some] at z
    rw [← drop_self C bm]
    exact z
  have hmro : PySem.W.Looks (model P w) h2 (mroOf (.ref C)) (.ref C :: bm) := fun A Q E s k q => wpAny_bind ((PySem.W.looks_clsIn K2 hcl) A _ E s k (wpAny_pure q))
  have hne : a ≠ C := fun z => by
    subst z
    have y := K2 _ _ hC
    rw [hoe2] at y
    cases y
  have hve : PySem.W.mroIn K C (.type "ValueError") = some true := by
    unfold PySem.W.mroIn
    rw [hcl, Option.bind_some]
    have ne := HandSPX.refsVE_ne (show HandSPX.refsVE (.ref C :: bm) = true from hbm)
    have ct := HandSPX.refsVE_contains "ValueError" (.ref C :: bm) (show HandSPX.refsVE (.ref C :: bm) = true from hbm)
    show (if List.isEmpty (Value.ref C :: bm) = true then none else some (List.contains (Value.ref C :: bm) (.type "ValueError"))) = some true
    rw [ne, if_neg Bool.false_ne_true, ct] <;> decide +kernel
  have hin : PySem.W.Looks (model P w) h2 (isInstance (.ref a) (.type "ValueError")) true := by
    have lt : PySem.W.Looks (model P w) h2 (typeOf (.ref a)) (.ref C) := fun A Q E s k q => wpAny_typeOf_ref (k _ _ hoe2) q
    exact lt.andThen (PySem.W.looks_mroIn K2 hve)
  refine vw_method e2 (PySem.W.looks_opaque K2 T.opq) hmro (drop_self C bm) K2 hini hne hin ?_
  have k3 : ∀ b o, h2.get? b = some o → (h2.push (vw a)).get? b = some o := fun b o e => Heap.get?_push_of_some _ e
  have e3 : (h2.push (vw a)).get? h2.objs.size = some (vw a) := Heap.get?_push_size _ rfl
  have I3 : Inv (ncx CX P w K mg base N (nfS name qual params rest scope cc cda) f A outer s H E) [] (startF N (.ref a :: ws) [none]) H { s with heap := h2.push (vw a), toks := s.toks + (ps.zip (Value.ref a :: ur)).length + 1 } := I2.kept k3
  refine vw_callWith (x := a) (by rfl) (Calls.evalArgs_plain (rest := []) ?_)
  refine Calls.spliced_cons (Calls.Constant_str (pos := p3) (k := j) (Calls.spliced_nil ⟨e3, ?_⟩))
  have K3 : K.In (h2.push (vw a)) := K2.keeps k3
  refine vw_call (K3 _ _ hC) (k3 _ _ hoe2) e3 (by show 1 ≤ sizeLine; rw [sizeLine_eq]; omega) fun h4 t4 k4 e4 => ?_
  have I4 := I3.write (t' := s.toks + (ps.zip (Value.ref a :: ur)).length + 1 + 1) (x := a) (e := a) (o := exo a C none) (by rw [ea]; exact True.intro) (.inl rfl) k4 ⟨_, e4⟩ (exo_ok e4)
  have eu : upd H a (exo a C none) = H := by
    funext b
    by_cases hb : b = a
    · rw [hb, upd_same, ea]
    · rw [upd_ne hb]
  rw [eu] at I4
  refine wpAt_of_wpAny (wpAny_mono (ht.run [] _ (startF N (.ref a :: ws) [none]) H _ I4 hq) (fun fl s' hs => ?_) fun e s' hs => hs)
  have fin : ∀ {σ' : L2.St} {H' : Hp} {v : V} {u : Value}, Inv (ncx CX P w K mg base N (nfS name qual params rest scope cc cda) f A outer s H E) [] σ' H' s' → L2.RelV v u → Q v H' → CE outer P w H s Q u s' := fun {σ' H' v u} J rv q => ⟨v, H', J.os, J.bare, J.base, J.hok, rv, q⟩
  cases fl with
  | ret u =>
    obtain ⟨v, σ', H', J, rv, q⟩ := hs
    exact fin J rv q
  | next =>
    obtain ⟨σ', H', J, q⟩ := hs
    exact fin (v := V.non) (u := Value.none) J rfl q
  | brk =>
    obtain ⟨_, _, _, q⟩ := hs
    exact False.elim q
  | cont =>
    obtain ⟨_, _, _, q⟩ := hs
    exact False.elim q
end Pl

set_option Elab.async false
set_option linter.all false
set_option maxRecDepth 100000
set_option maxHeartbeats 2000000
/-! what the text's head says of own errors -/
namespace Pl
open PySem PySem.Spec PyProof.Rows L2 RZ PySem.Calls NdefX
def lawFile : Str := "/claim/cut.py"
class SupP (P : Program) : Prop where
  file : P.main.file = lawFile
  top : (P.main.scope.names.lookup ("super" : Str)).isSome = false
structure ExD where
  cls : Str
  qual : Str
  params : Arguments
  body : List Stmt
  scope : Scope
  fields : List Str
abbrev ExD.C (K : PySem.W.Frag) (d : ExD) : Addr := He.ga K d.cls
abbrev ExD.f (K : PySem.W.Frag) (d : ExD) : Addr := He.ma K (He.ga K d.cls) "__init__"
def fnS (K : PySem.W.Frag) (a : Addr) : He.FnW := match K.lookup a with
  | some ⟨_, _, .func fd, _⟩ => some (fd.name, fd.qualname, fd.params, fd.body, fd.scope, fd.globals, [], fd.builtins)
  | _ => none
def ExD.val (d : ExD) : He.FnW := some ("__init__", d.qual, d.params, .stmts d.body, d.scope, mainGlobals, [], builtinsNs)
/-- the shape of the class's object -/
def oexB (K : PySem.W.Frag) (C : Addr) : Bool := match K.lookup C with
  | some ⟨c, _, .cls cd, sl⟩ => decide (c = .type "type") && (cd.hasDict && (!cd.hasDel && ((match cd.mro with
    | .ref D :: bm => decide (D = C) && HandSPX.refsVE bm
    | _ => false) && (match sl.toList with
    | [_, _, _, _, some (.builtin n), _] => decide (n = "ValueError.__new__")
    | _ => false))))
  | _ => false
theorem oexB_ok {K : PySem.W.Frag} {C : Addr} (h : oexB K C = true) : ∃ nm q N bs bm sn sub ab col dd k0 k1 k2 k3 k5, K.lookup C = some (excClassObj nm q C N bs bm true sn sub ab col dd k0 k1 k2 k3 k5 "ValueError.__new__") ∧ HandSPX.refsVE bm = true := by
  unfold oexB at h
  cases q : K.lookup C with
  | none => rw [q] at h; cases h
  | some o =>
    obtain ⟨c, dd, dt, sl⟩ := o
    rw [q] at h
    cases dt with
    | cls cd =>
      obtain ⟨h1, h⟩ := He.ba h
      obtain ⟨h2, h⟩ := He.ba h
      obtain ⟨h3, h⟩ := He.ba h
      obtain ⟨h4, h5⟩ := He.ba h
      obtain ⟨nm, bs, mro, ns, qn, hd, sn, sb, ab, col, del⟩ := cd
      have h1 := of_decide_eq_true h1
      subst h1
      dsimp only at h2 h3 h4
      subst h2
      have h3' : del = false := by simpa using h3
      subst h3'
      cases mro with
      | nil => cases h4
      | cons v bm =>
        cases v with
        | ref D =>
          obtain ⟨g1, g2⟩ := He.ba h4
          have g1 := of_decide_eq_true g1
          subst g1
          obtain ⟨sl⟩ := sl
          rcases sl with _ | ⟨k0, _ | ⟨k1, _ | ⟨k2, _ | ⟨k3, _ | ⟨k4, _ | ⟨k5, _ | ⟨k6, r⟩⟩⟩⟩⟩⟩⟩
          · cases h5
          · cases h5
          · cases h5
          · cases h5
          · cases h5
          · cases k4 with
            | none => cases h5
            | some v => cases v <;> cases h5
          · cases k4 with
            | none => cases h5
            | some v =>
              cases v with
              | builtin n =>
                have h5 : decide (n = "ValueError.__new__") = true := h5
                have h5 := of_decide_eq_true h5
                subst h5
                exact ⟨nm, qn, ns, bs, bm, sn, sb, ab, col, dd, k0, k1, k2, k3, k5, rfl, g2⟩
              | _ => cases h5
          · cases k4 with
            | none => cases h5
            | some v => cases v <;> cases h5
        | _ => cases h4
    | _ => cases h
def excCB (K : PySem.W.Frag) (D : Addr) : Bool := He.eqO (PySem.W.findIn K (.ref D) "__class__") (some (some (.builtin "object.__class__"))) && (He.eqO (PySem.W.specialIn K (.builtin "object.__class__") "__get__") (some (some (.builtin "getset_descriptor.__get__"))) && (decide (PySem.W.takesIn K (.builtin "object.__class__") = some true) && decide (PySem.W.mroIn K D (.type "object") = some true)))
/-- all that is asked of the class and of its __init__ -/
def ExD.ok (K : PySem.W.Frag) (d : ExD) : Bool :=
  (oexB K (d.C K) && (He.eqO (PySem.W.findIn K (.ref (d.C K)) "__setattr__") (some (some (.builtin "object.__setattr__"))) && (decide (PySem.W.typeIn K (.ref (d.C K)) = some (.type "type")) && (PySem.W.keepIn K (.ref (d.C K)) && (xfB K (d.C K) && excCB K (d.C K)))))) &&
  ((He.eqO (PySem.W.findIn K (.ref (d.C K)) "__init__") (some (some (.ref (d.f K)))) && (decide (PySem.W.typeIn K (.ref (d.f K)) = some (.type "function")) && (decide (PySem.W.mroIn K (d.C K) (.ref (d.C K)) = some true) && (He.eqO (PySem.W.ks_superIn K (d.C K) (d.C K) "__init__") (some (some (.builtin "ValueError.__init__"))) &&
    (He.eqO (PySem.W.nsIn K mainGlobals "super") (some none) && (He.eqO (PySem.W.nsIn K cStatics "thirdparty.any") (some none) && d.fields.all fun x => He.eqO (PySem.W.findIn K (.ref (d.C K)) x) (some none))))))) &&
  (match K.lookup (d.f K) with
    | some ⟨_, _, .func fd, _⟩ => PySem.W.codeIn K fd.code d.qual && (decide (fd.defaults = .none) && (match fd.closure with
      | [(x, cc)] => decide (x = ("__class__" : Str)) && (match K.lookup cc with
        | some ⟨_, _, .cell (some (.ref D)), _⟩ => decide (D = d.C K)
        | _ => false)
      | _ => false) && (match fd.code with
      | .ref cda => (match K.lookup cda with
        | some ⟨_, _, .fields vs, _⟩ => (match (vs[2]? : Option Value) with
          | some (.str file _) => decide (file = lawFile)
          | _ => false)
        | _ => false)
      | _ => false))
    | _ => false))
/-- .. as facts -/
structure ExT (K : PySem.W.Frag) (d : ExD) (fd : FuncData) (cc cda : Addr) : Prop where
  oe : OexC K (d.C K)
  xf : XfC K (d.C K)
  ec : ExcC K (d.C K)
  ini : PySem.W.findIn K (.ref (d.C K)) "__init__" = some (some (.ref (d.f K)))
  tI : PySem.W.typeIn K (.ref (d.f K)) = some (.type "function")
  no : ∀ x ∈ d.fields, PySem.W.findIn K (.ref (d.C K)) x = some none
  sup : ∀ (P : Program) [SupP P], SupC P K (d.C K) (d.f K) cc cda
  fn : ∃ oc od kV doc pm an ct osl, fd = PySem.W.fnX "__init__" d.qual d.params d.body d.scope [("__class__", cc)] .none kV doc pm an (.ref cda) ct ∧ K.lookup (d.f K) = some ⟨oc, od, .func fd, osl⟩
  cd : PySem.W.codeIn K (.ref cda) d.qual = true
theorem ExD.facts {K : PySem.W.Frag} {d : ExD} (e : fnS K (d.f K) = d.val) (h : d.ok K = true) : ∃ fd cc cda, ExT K d fd cc cda := by
  obtain ⟨h1, h2⟩ := He.ba h
  obtain ⟨a1, h1⟩ := He.ba h1
  obtain ⟨a2, h1⟩ := He.ba h1
  obtain ⟨a3, h1⟩ := He.ba h1
  obtain ⟨a4, h1⟩ := He.ba h1
  obtain ⟨a5, a6⟩ := He.ba h1
  obtain ⟨h2, h3⟩ := He.ba h2
  obtain ⟨b1, h2⟩ := He.ba h2
  obtain ⟨b2, h2⟩ := He.ba h2
  obtain ⟨b3, h2⟩ := He.ba h2
  obtain ⟨b4, h2⟩ := He.ba h2
  obtain ⟨b5, h2⟩ := He.ba h2
  obtain ⟨b6, b7⟩ := He.ba h2
  obtain ⟨c1, a6⟩ := He.ba a6
  obtain ⟨c2, a6⟩ := He.ba a6
  obtain ⟨c3, c4⟩ := He.ba a6
  have xf := xfB_ok a5
  have oe : OexC K (d.C K) := ⟨oexB_ok a1, He.eqO_ok a2, xf.exC, of_decide_eq_true a3, a4⟩
  unfold fnS at e
  cases q : K.lookup (d.f K) with
  | none => rw [q] at h3; cases h3
  | some o =>
    obtain ⟨oc, od, dt, osl⟩ := o
    rw [q] at h3 e
    cases dt with
    | func fd =>
      obtain ⟨n1, n2, n3, n4, n5, n6, n7, n8, n9, n10, n11, n12, n13, n14, n15⟩ := fd
      have e2 : (some (n1, n2, n3, n4, n5, n6, [], n15) : He.FnW) = some (("__init__" : Str), d.qual, d.params, FuncBody.stmts d.body, d.scope, mainGlobals, [], builtinsNs) := e
      simp only [Option.some.injEq, Prod.mk.injEq] at e2
      obtain ⟨g1, g2, g3, g4, g5, g6, _, g8⟩ := e2
      subst g1 g2 g3 g4 g5 g6 g8
      obtain ⟨k1, h3⟩ := He.ba h3
      obtain ⟨k02, k3⟩ := He.ba h3
      obtain ⟨k0, k2⟩ := He.ba k02
      dsimp only at k0 k1 k2 k3
      have k0 := of_decide_eq_true k0
      subst k0
      rcases n7 with _ | ⟨⟨x, cc⟩, _ | ⟨y, r⟩⟩
      · cases k2
      · obtain ⟨k4, k5⟩ := He.ba k2
        have k4 := of_decide_eq_true k4
        subst k4
        cases qc : K.lookup cc with
        | none => rw [qc] at k5; cases k5
        | some oc2 =>
          rw [qc] at k5
          obtain ⟨cl, cld, cdt, csl⟩ := oc2
          cases cdt with
          | cell v =>
            cases v with
            | none => cases k5
            | some v =>
              cases v with
              | ref D =>
                have k5 : decide (D = d.C K) = true := k5
                have k5 := of_decide_eq_true k5
                subst k5
                cases n13 with
                | ref cda =>
                  cases qd : K.lookup cda with
                  | none =>
                    dsimp only at k3
                    rw [qd] at k3
                    cases k3
                  | some od2 =>
                    dsimp only at k3
                    rw [qd] at k3
                    obtain ⟨ccl, cdd, cdt2, ccs⟩ := od2
                    cases cdt2 with
                    | fields vs =>
                      cases hv : (vs[2]? : Option Value) with
                      | none =>
                        dsimp only at k3
                        rw [hv] at k3
                        cases k3
                      | some v2 =>
                        dsimp only at k3
                        rw [hv] at k3
                        cases v2 with
                        | str file tf =>
                          have k3 : decide (file = lawFile) = true := k3
                          have k3 := of_decide_eq_true k3
                          subst k3
                          refine ⟨_, cc, cda, oe, xf, ⟨xf.ga, xf.gg, xf.exC, xf.hdC, He.eqO_ok c1, He.eqO_ok c2, of_decide_eq_true c3, of_decide_eq_true c4⟩, He.eqO_ok b1, of_decide_eq_true b2, fun x hx => He.eqO_ok (List.all_eq_true.mp b7 x hx), fun P _ => ?_, ⟨_, _, _, _, _, _, _, _, rfl, q⟩, k1⟩
                          exact ⟨oe, ⟨_, _, _, qc⟩, ⟨_, _, _, _, _, _, qd, hv, by rw [SupP.file] <;> simp⟩, He.eqO_ok b5, He.eqO_ok b6, SupP.top, of_decide_eq_true b3, He.eqO_ok b4⟩
                        | _ => cases k3
                    | _ => cases k3
                | _ => cases k3
              | _ => cases k5
          | _ => cases k5
      · cases k2
    | _ => cases h3
/-! ### the Hook -/
abbrev AlX : Type := AlB × (Bool × List He.FnW)
def obsXK (fa : List He.Fa) (fn : List He5.DefA) (xs : List ExD) (ex : PySem.W.Frag → Bool) (K : PySem.W.Frag) : AlX := (obsBK fa fn ex K, xs.all (fun d => d.ok K), xs.map fun d => fnS K (d.f K))
def valX (fn : List He5.DefA) (xs : List ExD) : AlX := ((He5.valA fn, true), true, xs.map ExD.val)
def obsX (n : Nat) (fa : List He.Fa) (fn : List He5.DefA) (xs : List ExD) (ex : PySem.W.Frag → Bool) (g : Addr → Option Obj) : AlX := obsXK fa fn xs ex (He.frG g (He5.asA g n))
def SaysX (fa : List He.Fa) (fn : List He5.DefA) (xs : List ExD) (ex : PySem.W.Frag → Bool) (K : PySem.W.Frag) : Prop := obsXK fa fn xs ex K = valX fn xs
def hookX (n : Nat) (fa : List He.Fa) (fn : List He5.DefA) (xs : List ExD) (ex : PySem.W.Frag → Bool) : PySem.W.Hook where
  α := AlX
  obs := fun s => obsX n fa fn xs ex s.heap.get?
  val := fun _ => valX fn xs
  says := fun _ h => ∃ K : PySem.W.Frag, K.In h ∧ SaysX fa fn xs ex K
  of := fun _ _ e => ⟨_, He.frG_in, e⟩
  keeps := fun _ _ _ ⟨K, hK, c⟩ k => ⟨K, PySem.W.Frag.In.keeps hK k, c⟩
theorem obsX_eq {n : Nat} {fa : List He.Fa} {fn : List He5.DefA} {xs : List ExD} {ex : PySem.W.Frag → Bool} {g : Addr → Option Obj} {s : Shared} (h : ∀ a, g a = s.heap.get? a) : obsX n fa fn xs ex g = (hookX n fa fn xs ex).obs s := by
  have e : g = s.heap.get? := funext h
  rw [e] <;> rfl
section
variable {fa : List He.Fa} {fn : List He5.DefA} {xs : List ExD} {ex : PySem.W.Frag → Bool} {K : PySem.W.Frag}
theorem SaysX.b (c : SaysX fa fn xs ex K) : SaysB fa fn ex K := congrArg (fun z : AlX => z.1) c
theorem SaysX.exc (c : SaysX fa fn xs ex K) (i : Nat) {d : ExD} (h : xs[i]? = some d := by rfl) : ∃ fd cc cda, ExT K d fd cc cda := by
  have c2 : xs.all (fun d => d.ok K) = true := congrArg (fun z : AlX => z.2.1) c
  have e : xs.map (fun d => fnS K (d.f K)) = xs.map ExD.val := congrArg (fun z : AlX => z.2.2) c
  have e2 : (xs.map fun d => fnS K (d.f K))[i]? = (xs.map ExD.val)[i]? := by rw [e]
  rw [List.getElem?_map, List.getElem?_map, h] at e2
  exact ExD.facts (Option.some.inj e2) (List.all_eq_true.mp c2 d (List.mem_of_getElem? h))
end
end Pl

set_option Elab.async false
set_option linter.all false
set_option maxRecDepth 100000
set_option maxHeartbeats 2000000
/-! own errors: made, raised, caught, asked -/
namespace Pl
open PySem PySem.Spec PyProof.Rows L2 RZ PySem.Calls NdefX
/-! ### what __init__ promises -/
def spE0 (C : Addr) : Sp := fun vs H Q _ => ∃ a, vs = [.ref a] ∧ H a = some (exo a C none) ∧ Q .non H
def spE1 (C : Addr) (f : Str) : Sp := fun vs H Q _ => ∃ a v, vs = [.ref a, v] ∧ H a = some (exo a C none) ∧ ∀ dx, H dx = none → dx ≠ a → Q .non (upd (upd H dx (exd dx [(f, v)])) a (exo a C (some dx)))
def spE2 (C : Addr) (f g : Str) : Sp := fun vs H Q _ => ∃ a v u, vs = [.ref a, v, u] ∧ H a = some (exo a C none) ∧ ∀ dx, H dx = none → dx ≠ a → Q .non (upd (upd (upd H dx (exd dx [(f, v)])) a (exo a C (some dx))) dx (exd dx [(g, u), (f, v)]))
/-- super().__init__("m") as it stands in the text -/
abbrev supCall (p0 p1 p2 p3 p4 : Pos) (m : Str) (j : Nat) : Expr := .Call (.Attribute (.Call (.Name "super" p0) [] [] p1) "__init__" p2) [.Constant (.str m) j p3] [] p4
def SupEq (p0 p1 p2 p3 p4 p5 : Pos) (m : Str) (j : Nat) : Prop := (∃ pl : Sem Bool, ∀ env : Env, eval (supCall p0 p1 p2 p3 p4 m j) env = (do
      let ov ← attributeBase (.Call (.Name "super" p0) [] [] p1) "__init__" env (eval (.Call (.Name "super" p0) [] [] p1) env)
      standAt p2.atName
      let (f, first) ← holding [ov] (getMethod ov "__init__" pl)
      callWith p4 f first (backTo p4 (starEach [.Constant (.str m) j p3] env)) [])) ∧ ∀ env : Env, swapsWith (supCall p0 p1 p2 p3 p4 m j) none p5.line env = pure false
section
variable {P : Program} {w : World} {K : PySem.W.Frag} {mg : Str → Option Value} {base : Heap} {d : ExD} {fd : FuncData} {cc cda : Addr} {CX : CXT} {p0 p1 p2 p3 p4 p5 q1 q2 q3 q4 r1 r2 r3 r4 : Pos} {m x f y g : Str} {j : Nat} {ar : Arg}
theorem ExT.ok0 [SupP P] (T : ExT K d fd cc cda) (hb : d.body = [.Expr (supCall p0 p1 p2 p3 p4 m j) p5]) (S : NScope ["self", "__class__"] ["self"] ["__class__"] d.scope) (hp : (d.params.posonlyargs ++ d.params.args).head? = some ar) (har : ar.arg = "self")
    (hks : d.scope.names.lookup ("super" : Str) = some .globalImplicit) (he : SupEq p0 p1 p2 p3 p4 p5 m j) : FnOk P w K mg base CX 1 (d.f K) fd ["self"] (spE0 (d.C K)) := by
  obtain ⟨oc, od, kV, doc, pm, an, ct, osl, e, lk⟩ := T.fn
  subst e
  rw [hb] at lk ⊢
  refine fn_sup (k := 0) (T.sup P) lk T.cd S hp (by rw [har] <;> rfl) hks he.1 he.2 (fun vs H Q E h => ?_) (fun A outer s H vs Q E hr h => ?_)
  · obtain ⟨a, rfl, _⟩ := h
    rfl
  · obtain ⟨a, rfl, ea, q⟩ := h
    exact ⟨a, _, rfl, ea, _, pss_nil, q⟩
theorem ExT.ok1 [SupP P] (T : ExT K d fd cc cda) (hb : d.body = [.Expr (supCall p0 p1 p2 p3 p4 m j) p5, .Assign [.Attribute (.Name "self" q1) f q2] (.Name x q3) q4]) (S : NScope ["self", x, "__class__"] ["self", x] ["__class__"] d.scope) (hp : (d.params.posonlyargs ++ d.params.args).head? = some ar) (har : ar.arg = "self")
    (hks : d.scope.names.lookup ("super" : Str) = some .globalImplicit) (hx : (x == ("__debug__" : Str)) = false ∧ (x == ("__classdict__" : Str)) = false) (hf : f ∈ d.fields) (he : SupEq p0 p1 p2 p3 p4 p5 m j) (hs1 : ∀ env : Env, swapsWith (.Name x q3) (some (.Attribute (.Name "self" q1) f q2)) q4.line env = pure false) :
    FnOk P w K mg base CX 1 (d.f K) fd ["self", x] (spE1 (d.C K) f) := by
  obtain ⟨oc, od, kV, doc, pm, an, ct, osl, e, lk⟩ := T.fn
  subst e
  rw [hb] at lk ⊢
  refine fn_sup (k := 0) (T.sup P) lk T.cd S hp (by rw [har] <;> rfl) hks he.1 he.2 (fun vs H Q E h => ?_) (fun A outer s H vs Q E hr h => ?_)
  · obtain ⟨a, v, rfl, _⟩ := h
    rfl
  · obtain ⟨a, v, rfl, ea, q⟩ := h
    refine ⟨a, _, rfl, ea, _, pss_one (ps_ost (pv 0 rfl (.inl (S.par _ List.mem_cons_self))) (pv 1 rfl (.inl (S.par _ (List.mem_cons_of_mem _ List.mem_cons_self))) hx.1 hx.2) (hs1 _)), ?_⟩
    exact ⟨v, rfl, .ref a, rfl, a, d.C K, rfl, T.oe, T.no f hf, .inl ⟨ea, fun dx n1 n2 => q dx n1 n2⟩⟩
theorem ExT.ok2 [SupP P] (T : ExT K d fd cc cda) (hb : d.body = [.Expr (supCall p0 p1 p2 p3 p4 m j) p5, .Assign [.Attribute (.Name "self" q1) f q2] (.Name x q3) q4, .Assign [.Attribute (.Name "self" r1) g r2] (.Name y r3) r4])
    (S : NScope ["self", x, y, "__class__"] ["self", x, y] ["__class__"] d.scope) (hp : (d.params.posonlyargs ++ d.params.args).head? = some ar) (har : ar.arg = "self")
    (hks : d.scope.names.lookup ("super" : Str) = some .globalImplicit) (hx : (x == ("__debug__" : Str)) = false ∧ (x == ("__classdict__" : Str)) = false) (hy : (y == ("__debug__" : Str)) = false ∧ (y == ("__classdict__" : Str)) = false) (hf : f ∈ d.fields) (hg : g ∈ d.fields) (he : SupEq p0 p1 p2 p3 p4 p5 m j)
    (hs1 : ∀ env : Env, swapsWith (.Name x q3) (some (.Attribute (.Name "self" q1) f q2)) q4.line env = pure false) (hs2 : ∀ env : Env, swapsWith (.Name y r3) (some (.Attribute (.Name "self" r1) g r2)) r4.line env = pure false) :
    FnOk P w K mg base CX 1 (d.f K) fd ["self", x, y] (spE2 (d.C K) f g) := by
  obtain ⟨oc, od, kV, doc, pm, an, ct, osl, e, lk⟩ := T.fn
  subst e
  rw [hb] at lk ⊢
  refine fn_sup (k := 0) (T.sup P) lk T.cd S hp (by rw [har] <;> rfl) hks he.1 he.2 (fun vs H Q E h => ?_) (fun A outer s H vs Q E hr h => ?_)
  · obtain ⟨a, v, u, rfl, _⟩ := h
    rfl
  · obtain ⟨a, v, u, rfl, ea, q⟩ := h
    have m1 : ("self" : Str) ∈ ([("self" : Str), x, y] : List Str) := List.mem_cons_self
    have m2 : x ∈ ([("self" : Str), x, y] : List Str) := List.mem_cons_of_mem _ List.mem_cons_self
    have m3 : y ∈ ([("self" : Str), x, y] : List Str) := List.mem_cons_of_mem _ (List.mem_cons_of_mem _ List.mem_cons_self)
    refine ⟨a, _, rfl, ea, _, pss_cons (ps_ost (pv 0 rfl (.inl (S.par _ m1))) (pv 1 rfl (.inl (S.par _ m2)) hx.1 hx.2) (hs1 _)) (pss_one (ps_ost (pv 0 rfl (.inl (S.par _ m1))) (pv 2 rfl (.inl (S.par _ m3)) hy.1 hy.2) (hs2 _))), ?_⟩
    refine ⟨v, rfl, .ref a, rfl, a, d.C K, rfl, T.oe, T.no f hf, .inl ⟨ea, fun dx n1 n2 => ?_⟩⟩
    exact ⟨u, rfl, .ref a, rfl, a, d.C K, rfl, T.oe, T.no g hg, .inr ⟨dx, _, upd_same, by rw [upd_ne n2, upd_same], by simp, q dx n1 n2⟩⟩
end
theorem PMk.imp {X : Cx} {e : Expr} {t t' : L2.St → Hp → XK → Prop} (h : PMk X e t) (f : ∀ σ H Q, t' σ H Q → t σ H Q) : PMk X e t' := fun pins s σ H Q I q => h pins s σ H Q I (f σ H Q q)
/-- C(e): a made error of one field, its own dict d new -/
def tEx1 (C : Addr) (f : Str) (te : TE) : L2.St → Hp → XK → Prop := fun σ H Q => te σ H fun v H1 => ∀ d H', Same H1 H' → H1 d = none → H' d = some (.xd [(f, v)]) → Q (.ref C) (some d) H'
def tEx2 (C : Addr) (f g : Str) (te tg : TE) : L2.St → Hp → XK → Prop := fun σ H Q => te σ H fun v H1 => tg σ H1 fun u H2 => ∀ d H', Same H2 H' → H2 d = none → H' d = some (.xd [(g, u), (f, v)]) → Q (.ref C) (some d) H'
def tEx0 (C : Addr) : L2.St → Hp → XK → Prop := fun _ H Q => ∀ H', Same H H' → Q (.ref C) none H'
section
variable {X : Cx} {d : ExD} {fd : FuncData} {cc cda : Addr} {x y f g nm : Str} {e e2 : Expr} {te tg : TE} {p pos : Pos}
theorem pmk_e1 (T : ExT X.K d fd cc cda) (F1 : FnOk X.prog X.w X.K X.mg X.base CX0 1 (d.f X.K) fd ["self", x] (spE1 (d.C X.K) f)) (hr : Room 2 X.A) (hb : Binds X.K fd ["self", x] []) (hg : Gl X nm) (hm : X.mg nm = some (.ref (d.C X.K))) (he : PE X e te)
    (hdb : (nm == ("__debug__" : Str)) = false := by decide) (hst : starEach [e] X.env = (false, eval e X.env) :: starEach [] X.env := by rfl) (hpl : (backTo pos (starEach [] X.env)).any (·.1) = false := by rfl) :
    PMk X (.Call (.Name nm p) [e] [] pos) (tEx1 (d.C X.K) f te) := by
  refine PMk.imp (pmk_oex T.oe T.ini T.tI F1 hr hb .nil pass0 hg hm (pa_cons he pa_nil hst).up hdb hst hpl) fun σ H Q h => ⟨fun vs H1 => match vs with
    | [v] => ∀ dd H', Same H1 H' → H1 dd = none → H' dd = some (.xd [(f, v)]) → Q (.ref (d.C X.K)) (some dd) H'
    | _ => False, h, fun vs H1 q => ?_⟩
  match vs, q with
  | [v], q =>
    refine ⟨by show 1 ≤ 1000; decide, fun a ha => ⟨a, v, rfl, upd_same, fun dx n1 n2 => ?_⟩⟩
    have n3 : H1 dx = none := by rw [upd_ne n2] at n1; exact n1
    refine ⟨rfl, dx, _, upd_same, by rw [upd_ne n2, upd_same], n3, q dx _ (fun b o hb => ?_) n3 upd_same⟩
    have h1 := ne_of_none hb n3
    have h2 := ne_of_none hb ha
    rw [upd_ne h1, del_ne h2, upd_ne h2, upd_ne h1, upd_ne h2]
    exact hb
theorem pmk_e2 (T : ExT X.K d fd cc cda) (F1 : FnOk X.prog X.w X.K X.mg X.base CX0 1 (d.f X.K) fd ["self", x, y] (spE2 (d.C X.K) f g)) (hr : Room 2 X.A) (hb : Binds X.K fd ["self", x, y] []) (hg : Gl X nm) (hm : X.mg nm = some (.ref (d.C X.K))) (he : PE X e te) (he2 : PE X e2 tg)
    (hdb : (nm == ("__debug__" : Str)) = false := by decide) (hst : starEach [e, e2] X.env = (false, eval e X.env) :: starEach [e2] X.env := by rfl) (hst2 : starEach [e2] X.env = (false, eval e2 X.env) :: starEach [] X.env := by rfl) (hpl : (backTo pos (starEach [e2] X.env)).any (·.1) = false := by rfl) :
    PMk X (.Call (.Name nm p) [e, e2] [] pos) (tEx2 (d.C X.K) f g te tg) := by
  refine PMk.imp (pmk_oex T.oe T.ini T.tI F1 hr hb .nil pass0 hg hm (pa_cons he (pa_cons he2 pa_nil hst2) hst).up hdb hst hpl) fun σ H Q h => ⟨fun vs H1 => match vs with
    | [v, u] => ∀ dd H', Same H1 H' → H1 dd = none → H' dd = some (.xd [(g, u), (f, v)]) → Q (.ref (d.C X.K)) (some dd) H'
    | _ => False, h, fun vs H1 q => ?_⟩
  match vs, q with
  | [v, u], q =>
    refine ⟨by show 2 ≤ 1000; decide, fun a ha => ⟨a, v, u, rfl, upd_same, fun dx n1 n2 => ?_⟩⟩
    have n3 : H1 dx = none := by rw [upd_ne n2] at n1; exact n1
    refine ⟨rfl, dx, _, by rw [upd_ne (Ne.symm n2), upd_same], upd_same, n3, q dx _ (fun b o hb => ?_) n3 upd_same⟩
    have h1 := ne_of_none hb n3
    have h2 := ne_of_none hb ha
    rw [upd_ne h1, del_ne h2, upd_ne h1, upd_ne h2, upd_ne h1, upd_ne h2]
    exact hb
/-- the end of C(), C without fields: the exception is let go -/
theorem mk_endN {pins : List (Addr × Obj)} {σ : L2.St} {H1 H2 : Hp} {Q : XK} {hp hp2 h2 : Heap} {g1 g2 : Array GenState} {d1 d2 : Drawn} {t1 t2 : Nat} {os1 os2 : OsState} {a C : Addr} (T : Raises X (.ref C)) (I1 : Inv X pins σ H1 ⟨hp, g1, d1, t1, os1⟩) (ha : hp.objs.size ≤ a)
    (k : ∀ b o, hp.get? b = some o → hp2.get? b = some o) (un : Un (frs X.stack) [] (upd H1 a (exo a C none)) H2 hp2 h2) (hok : HOk X.prog X.w H2 h2) (ho : os2 = os1) (hb : AllBare g2) (ea : H2 a = some (exo a C none)) (q : Q (.ref C) none (del H2 a)) :
    MkP X pins σ Q (.ref a) ⟨h2, g2, d2, t2, os2⟩ := by
  obtain ⟨t0, hoe⟩ := exo_at hok ea
  have hn : H1 a = none := I1.hok.fresh ha
  obtain ⟨G, g1', g2'⟩ := restrict h2 fun b => decide (b ≠ a)
  have gk : ∀ b, b ≠ a → G.get? b = h2.get? b := fun b hb => g1' b (decide_eq_true hb)
  have ge : G.get? a = none := g2' a (by simp)
  have nha : ∀ {b : Addr} {o : Obj}, hp.get? b = some o → b ≠ a := fun {b o} z => Nat.ne_of_lt (Nat.lt_of_lt_of_le (Heap.lt_size z) ha)
  have up : ∀ {b : Addr}, b ≠ a → H1 b = none → upd H1 a (exo a C none) b = none := fun {b} hb n => by rw [upd_ne hb]; exact n
  have U : Un (frs X.stack) [] H1 (del H2 a) hp G := {
    keep := fun b o z n hf hx => (gk b (nha z)).trans (un.keep b o (k b o z) (up (nha z) n) hf hx)
    slot := fun b o z n hf hx => by rw [gk b (nha z)]; exact un.slot b o (k b o z) (up (nha z) n) hf hx
    free := fun b o z n hx => by rw [del_ne (nha z)]; exact un.free b o (k b o z) (up (nha z) n) hx
    there := fun b o z hx => by rw [gk b (nha z)]; exact un.there b o (k b o z) hx
    tups := fun b xs z => by rw [del_ne (ne_of_none z hn)]; exact un.tups b xs (by rw [upd_ne (ne_of_none z hn)]; exact z)
    frzs := fun b o v z => by rw [del_ne (ne_of_none z hn)]; exact un.frzs b o v (by rw [upd_ne (ne_of_none z hn)]; exact z)
    tbls := fun b ps z => by rw [del_ne (ne_of_none z hn)]; exact un.tbls b ps (by rw [upd_ne (ne_of_none z hn)]; exact z) }
  have hok3 : HOk X.prog X.w (del H2 a) G := fun b o z => by
    have hba : b ≠ a := fun e => by
      rw [e, del_same] at z
      cases z
    rw [del_ne hba] at z
    have noa : ∀ {c : Addr}, H2 c = some (.own b) → c ≠ a := fun {c} hc => at_ne ea hc exo_own
    exact (hok b o z).stay (fun c v hc y => by
        have hca : c ≠ a := by
          rcases hc with hc | hc
          · rw [hc]; exact hba
          · exact noa hc
        rw [gk c hca]; exact y)
      (fun c hc => by rw [del_ne (noa hc)]; exact hc) (fun c xs hc => by rw [del_ne (at_ne ea hc exo_tup)]; exact hc)
  have J : Inv X pins σ (del H2 a) ⟨G, g2, d2, t2, os2⟩ := I1.call' (ch := []) ho U hok3 hb (fun b z => absurd z (by simp))
  refine ⟨a, _, _, ⟨G, g2, d2, t2, os2⟩, _, .ref C, none, rfl, J, fun b o z => ?_, ge, hoe, ⟨rfl, rfl⟩, rfl, rfl, del_same, rfl, hb, T, q⟩
  by_cases hba : b = a
  · rw [hba] at z
    have z' : G.get? a = some o := z
    rw [ge] at z'
    cases z'
  · exact (gk b hba).symm.trans z
theorem pmk_e0 (T : ExT X.K d fd cc cda) (F1 : FnOk X.prog X.w X.K X.mg X.base CX0 1 (d.f X.K) fd ["self"] (spE0 (d.C X.K))) (hr : Room 2 X.A) (hb : Binds X.K fd ["self"] []) (hg : Gl X nm) (hm : X.mg nm = some (.ref (d.C X.K))) (hdb : (nm == ("__debug__" : Str)) = false := by decide) :
    PMk X (.Call (.Name nm p) [] [] pos) (tEx0 (d.C X.K)) := by
  intro pins s σ H Q I h
  obtain ⟨nm', q, N, bs, bm, sn, sub, ab, col, dd, k0, k1, k2, k3, k5, hC, hbm⟩ := T.oe.cls
  refine wpAny_Call_Name_kw (ld_glob I hg hm ?_ hdb)
  refine PySem.W.callWith_K0 I.kIn T.oe.kC ?_
  obtain ⟨hp, gn, dr, tk, os⟩ := s
  have hsz : hp.objs.size ≤ hp.objs.size + 1 := Nat.le_succ _
  have hn : H (hp.objs.size + 1) = none := I.hok.fresh hsz
  have kk : ∀ b o, hp.get? b = some o → ((hp.push (PySem.W.kdv_tup [])).push (PySem.HandSPX.excO (d.C X.K) hp.objs.size)).get? b = some o := fun b o e => Heap.get?_push_of_some _ (Heap.get?_push_of_some _ e)
  have hget : ((hp.push (PySem.W.kdv_tup [])).push (PySem.HandSPX.excO (d.C X.K) hp.objs.size)).get? (hp.objs.size + 1) = some (PySem.HandSPX.excO (d.C X.K) hp.objs.size) := by heap_get
  have I2 : Inv X pins σ (upd H (hp.objs.size + 1) (exo (hp.objs.size + 1) (d.C X.K) none)) ⟨(hp.push (PySem.W.kdv_tup [])).push (PySem.HandSPX.excO (d.C X.K) hp.objs.size), gn, dr, tk, os⟩ :=
    I.laid (t' := tk) (a := hp.objs.size + 1) (o := exo (hp.objs.size + 1) (d.C X.K) none) (h' := (hp.push (PySem.W.kdv_tup [])).push (PySem.HandSPX.excO (d.C X.K) hp.objs.size)) kk hsz (exo_ok hget)
  have r2 : Vals [V.ref (hp.objs.size + 1)] [Value.ref (hp.objs.size + 1)] := .cons rfl .nil
  have hsp : spE0 (d.C X.K) [V.ref (hp.objs.size + 1)] (upd H (hp.objs.size + 1) (exo (hp.objs.size + 1) (d.C X.K) none)) (fun v H2 => v = .non ∧ H2 = upd H (hp.objs.size + 1) (exo (hp.objs.size + 1) (d.C X.K) none)) (fun _ _ _ => False) := ⟨_, rfl, upd_same, rfl, rfl⟩
  refine wpAny_call (PySem.HandSPX.call_own F.excBase_ValueError (fun Y => PySem.HandSPX.refsVE_contains Y bm hbm) (I.kIn _ _ hC) (PySem.W.looks_findIn I.kIn T.ini) (fun self => PySem.W.bind_fn I.kIn self T.tI) (by show 0 ≤ sizeLine; exact Nat.zero_le _)
    (codeAny_mono (F1.run _ X.stack _ _ ⟨[Value.ref (hp.objs.size + 1)], []⟩ [Value.ref (hp.objs.size + 1)] _ _ (fun _ _ _ => False) (hr.make (d.C X.K) [] []) (I2.env0.make (d.C X.K) [] []) (hb _ [Value.ref (hp.objs.size + 1)] I2.kIn rfl) r2 hsp) fun r s' hq' => ?_))
  cases r with
  | error er => exact pass0 pins σ _ _ er s' I2 hq'
  | ok fl =>
    cases fl with
    | ret u =>
      obtain ⟨v, H2, os2, bare2, un2, hok2, rv, ev, eH⟩ := hq'
      subst ev
      subst eH
      obtain ⟨h2, g2, d2, t2, os'⟩ := s'
      refine ⟨rv, mk_endN (raises_own T.oe.exC T.oe.tyC) I hsz kk un2 hok2 os2 bare2 upd_same (h _ fun b o e => ?_)⟩
      rw [del_ne (ne_of_none e hn), upd_ne (ne_of_none e hn)]
      exact e
    | next => exact False.elim hq'
    | brk => exact False.elim hq'
    | cont => exact False.elim hq'
end
end Pl

set_option Elab.async false
set_option linter.all false
set_option maxRecDepth 100000
set_option maxHeartbeats 2000000
/-! several named clauses; what a suite asks of the error it holds -/
namespace Pl
open PySem PySem.Spec PyProof.Rows L2 RZ PySem.Calls NdefX
abbrev Suite := Addr → Value → Option Addr → TS
def atEnd (D : Ends) (i : Nat) : Ends := { nx := fun σ' H' => D.nx (σ'.set i none) H', rt := D.rt, bk := fun σ' H' => D.bk (σ'.set i none) H', ct := fun σ' H' => D.ct (σ'.set i none) H' }
/-- what the clauses wish of an exception of the body, one after the other; each: its class, its name's slot, its suite -/
def wAll (K : PySem.W.Frag) (Wout : WX) (D : Ends) : List (Value × Nat × Suite) → WX
  | [] => Wout
  | (c, i, ts) :: r => fun cls d σ H => ∃ b, PySem.W.exmOne K cls c = some b ∧ (b = true → ∀ a, H a = none → ts a cls d (atEnd D i) (σ.set i (some (.ref a))) H) ∧ (b = false → wAll K Wout D r cls d σ H)
inductive HdsN (X : Cx) : List ExceptHandler → List (Value × Nat × Suite) → Prop
  | nil : HdsN X [] []
  | cons {x n : Str} {c : Value} {i : Nat} {ts : Suite} {b₀ : Stmt} {suite : List Stmt} {np pos' : Pos} {hds : List ExceptHandler} {l : List (Value × Nat × Suite)} (hi : X.N[i]? = some n) (hln : X.env.kindOf n = some .local) (hc : Names X x c)
      (hsu : ∀ (a : Addr) (oe : Obj) (cls : Value) (d : Option Addr) (pn : List (Addr × Obj)), Zc cls d oe → (∃ vs, oe.data = .fields vs) → PSs (X.suite a ((a, oe) :: pn)) (b₀ :: suite) (ts a cls d)) (r : HdsN X hds l) :
      HdsN X (.ExceptHandler (some (.Name x np)) (some n) (b₀ :: suite) pos' :: hds) ((c, i, ts) :: l)
section
variable {X : Cx} {body : List Stmt} {h₀ : ExceptHandler} {hds : List ExceptHandler} {l : List (Value × Nat × Suite)} {pos : Pos} {tb : WX → TS} {Wout : WX}
theorem ps_try_all (hN : X.N.Nodup) (hs : X.stack = X.env :: X.outer) (hf : X.env.frame = some X.env.locals) (tk : Takes X Wout)
    (hb : ∀ (W : WX) (pn : List (Addr × Obj)) (xe : Value → Shared → Prop), Takes (X.tr pn xe) W → PassesOwn (model X.prog X.w) X.A X.env xe → PSs (X.tr pn xe) body (tb W))
    (hh : HdsN X (h₀ :: hds) l) : PS X (.Try body (h₀ :: hds) [] [] pos) (fun D σ H => tb (wAll X.K Wout D l) D σ H) := by
  refine ⟨fun pins s σ H D I h => ?_⟩
  have ok := I.ok
  have hfr : X.A.frames = some (X.env :: X.outer) := by rw [ok.frames, hs]
  refine wpAny_Try_except ?_
  refine wpAny_mono ((hb (wAll X.K Wout D l) (X.pn ++ pins) (fun e s₁ => wpAny (model X.prog X.w) X.A (noteFrame e X.env) (fun _ s₂ => wpAny (model X.prog X.w) X.A (setFlight e none) (fun _ s₃ => wpAny (model X.prog X.w) X.A (handleBy e X.env (h₀ :: hds)) (SP X pins D) X.xe s₃) X.xe s₂) X.xe s₁) (fun u s' xx => ?_) PassesOwn.looking).run [] s σ H D (I.toTry _) h) (fun f s1 hsp => ?_) (fun e s1 he => he)
  · obtain ⟨a, B, sI, pins', σ', H', cls, d, rfl, J', nb, up, sky, na, os, ag, w⟩ := xx
    have J : Inv X pins σ' H' sI := J'.ofTry ok
    have sky' : Sky B (X.env :: X.outer) a (Zc cls d) X.env.locals s'.heap := by rw [← hs]; exact sky
    show wpAny (model X.prog X.w) X.A (noteFrame (.ref a) X.env) _ _ _
    refine Sky.land Zc.steady hfr hf sky' fun h3 fl3 up3 => ?_
    have J3 : Inv X pins σ' H' { s' with heap := h3 } := J.landed nb fl3.1 (up.trans up3) os ag
    obtain ⟨oe3, vs3, he3, hz3, hd3⟩ := fl3.there
    have notFr : ∀ {h : Heap} {o : Obj} {vs : Array Value}, h.FunFrames B (X.env :: X.outer) → h.get? a = some o → o.data = .fields vs → a ∉ frs (X.env :: X.outer) := fun {h o vs} ff e dd hm => by
      obtain ⟨_, o', e', hnf⟩ := ff.mem hm
      rw [e] at e'
      cases e'
      exact hnf _ dd
    have nfr := notFr fl3.2.2.1 he3 hd3
    have nL : a ≠ X.env.locals := fun z => nfr (List.mem_filterMap.mpr ⟨X.env, List.mem_cons_self, by rw [hf, z]⟩)
    have nF : a ∉ X.fs := fun hm => by
      obtain ⟨e, he, q⟩ := List.mem_filterMap.mp hm
      exact nfr (List.mem_filterMap.mpr ⟨e, List.mem_cons_of_mem _ he, q⟩)
    have S3 := J3.suite he3 hd3 na nL nF
    have go : ∀ {hds' : List ExceptHandler} {l' : List (Value × Nat × Suite)}, HdsN X hds' l' → wAll X.K Wout D l' cls d σ' H' → wpAny (model X.prog X.w) X.A (handleBy (.ref a) X.env hds') (SP X pins D) X.xe { s' with heap := h3 } := by
      intro hds' l' hk
      induction hk with
      | nil =>
        intro w
        refine wpAny_handleBy_nil ?_
        obtain ⟨k1, k2, k3, oe, vs, T, oT, ts', he, hz, hd, h1, hr⟩ := id fl3
        unfold PySem.passOn
        refine wpAny_bind (wpAny_field he hd h1 ?_)
        rw [if_neg (show ¬ ((Value.ref T == Value.none) = true) from by simp)]
        have fin : wpAny (model X.prog X.w) X.A (setFlight (.ref a) X.env.frame) (fun _ s4 => wpAny (model X.prog X.w) X.A (throw (.ref a) : Sem Flow) (SP X pins D) X.xe s4) X.xe { s' with heap := h3 } := by
          rw [hf]
          refine HandSPX.setFlight_upZ fl3 fun h4 hh4 up4 => wpAny_throw (tk _ _ ?_)
          exact ⟨a, B, sI, pins, σ', H', cls, d, rfl, J, nb, (up.trans up3).trans up4, .inr (.inr (by rw [hs]; exact hh4)), na, os, ag, w⟩
        first
          | exact wpAny_bind (wpAny_pure (wpAny_bind fin))
          | exact wpAny_bind fin
      | @cons x n c i ts b₀ suite np pos' hds2 l2 hi hln hc hsu r ih =>
        intro w
        have hloc : Loc X.env.scope n := .inl hln
        obtain ⟨b, hb1, hyes, hno⟩ := w
        refine wpAny_handleBy_cons (codeAny_handlers_test ?_) (by intro q; cases q)
        have LT : PySem.W.Looks (model X.prog X.w) h3 (typeOf (.ref a)) cls := fun A Q E s k q => wpAny_typeOf_ref (k _ _ he3) (by rw [hz3.1]; exact q)
        have LM := PySem.W.exm_one (M := model X.prog X.w) (J3.kIn) LT hb1
        have test : ∀ {Q : Value → Shared → Prop} {E : Value → Shared → Prop}, Q c { s' with heap := h3 } → wpAny (model X.prog X.w) (X.A.mark (some (.ref a))) (eval (.Name x np) X.env) Q E { s' with heap := h3 } := fun {Q E} q => by
          obtain ⟨hg, hdbg, hm | ⟨hm, hv, hnn⟩⟩ := hc
          · exact ld_glob (X := X.suite a ((a, oe3) :: (X.pn ++ pins))) S3 hg hm q hdbg
          · exact ld_blt (X := X.suite a ((a, oe3) :: (X.pn ++ pins))) S3 hg hm hv q hnn hdbg
        refine test (LM.here ?_)
        cases b with
        | true =>
          refine codeAny_handlers_suite_as ?_
          refine HandSPX.lands_againZ fl3 fun h4 fl4 up4 => ?_
          have J4 : Inv X pins σ' H' { s' with heap := h4 } := J.landed nb fl4.1 ((up.trans up3).trans up4) os ag
          obtain ⟨oe4, vs4, he4, hz4, hd4⟩ := fl4.there
          have S4 := J4.suite he4 hd4 na nL nF
          refine store_ok (X := X.suite a ((a, oe4) :: (X.pn ++ pins))) (v := .ref a) S4 hN hi hloc rfl (fun s5 S5 => ?_) (.inr hln)
          refine wpAny_mono ((hsu a oe4 cls d (X.pn ++ pins) hz4 ⟨_, hd4⟩).run [] s5 _ H' _ S5 (hyes rfl a na)) (fun f s6 hsp => ?_) (fun _ _ z => False.elim z)
          have end_ : ∀ {σ6 : L2.St} {H6 : Hp} {Q : Shared → Prop}, Inv (X.suite a ((a, oe4) :: (X.pn ++ pins))) [] σ6 H6 s6 → (∀ s7, Inv X pins (σ6.set i none) H6 s7 → Q s7) → wpAny (model X.prog X.w) X.A (do bindName X.env n .none; unbindBehindTheSuite X.env n pos') (fun _ s7 => Q s7) X.xe s6 := fun {σ6 H6 Q} S6 hq => gone_ok (S6.unsuite ok) hN hi hln hq
          cases f with
          | next =>
            obtain ⟨σ6, H6, S6, q6⟩ := hsp
            exact end_ S6 fun s7 J7 => ⟨_, _, J7, q6⟩
          | brk =>
            obtain ⟨σ6, H6, S6, q6⟩ := hsp
            exact end_ S6 fun s7 J7 => ⟨_, _, J7, q6⟩
          | cont =>
            obtain ⟨σ6, H6, S6, q6⟩ := hsp
            exact end_ S6 fun s7 J7 => ⟨_, _, J7, q6⟩
          | ret u =>
            obtain ⟨v6, σ6, H6, S6, r6, q6⟩ := hsp
            exact end_ S6 fun s7 J7 => ⟨_, _, _, J7, r6, q6⟩
        | false =>
          show wpAny _ X.A (handleBy (.ref a) X.env hds2) _ _ _
          exact ih (hno rfl)
    exact go hh w
  · cases f with
    | next =>
      obtain ⟨σ', H', J', q⟩ := hsp
      exact wpAny_execs_nil ⟨σ', H', J'.ofTry ok, q⟩
    | brk =>
      obtain ⟨σ', H', J', q⟩ := hsp
      exact ⟨σ', H', J'.ofTry ok, q⟩
    | cont =>
      obtain ⟨σ', H', J', q⟩ := hsp
      exact ⟨σ', H', J'.ofTry ok, q⟩
    | ret u =>
      obtain ⟨v, σ', H', J', r, q⟩ := hsp
      exact ⟨v, σ', H', J'.ofTry ok, r, q⟩
end
end Pl
namespace Pl
open PySem PySem.Spec PyProof.Rows PySem.W PySem.Calls
section
variable {prog : Program} {w : World} {A : Around} {E : Value → Shared → Prop} {s : Shared} {K : Frag} {x D : Addr} {ox : Obj} {od : Option Obj}
theorem find_data {C : Addr} {name : Str} {a g : Value} (hc : (clsIn K C).isSome = true) (ha : findIn K (.ref C) name = some (some a)) (hg : specialIn K a "__get__" = some (some g)) (ht : takesIn K a = some true) : findObj K C od name = some (.bind g a) := by
  obtain ⟨cd, hc⟩ := Option.isSome_iff_exists.mp hc
  unfold findObj
  rw [hc, Option.bind_some, ha, Option.bind_some]
  simp [hg, ht]
/-- x.__class__ of a caught error, with or without a dict -/
theorem cls_of {Q : Option Value → Shared → Prop} (T : L2.ExcC K D) (X : K.In s.heap) (I : InstAt s.heap x ox D od) (h : Q (some (.ref D)) { s with toks := s.toks + 1 }) : wpAny (model prog w) A (getAttr? (.ref x) "__class__") Q E s := by
  have hf : findObj K D od "__class__" = some (.bind (.builtin "getset_descriptor.__get__") (.builtin "object.__class__")) := find_data (by obtain ⟨cd, hc, _⟩ := any_some T.hd; rw [hc] <;> rfl) T.ha T.hn T.ht
  obtain ⟨hp, g, d, t, os⟩ := s
  have L0 := I.type (M := model prog w)
  have L1 := looks_findIn (M := model prog w) X T.hg
  have L2 := looks_findIn (M := model prog w) X T.hk
  have L3 := looks_find (M := model prog w) X I hf
  have sub : Looks (model prog w) hp (isInstance (.ref x) (.type "BaseException")) true := L0.andThen (looks_subIn X T.hs)
  have hx0 : (false && onTheHeap (Value.builtin "BaseException.__getattribute__")) = false := rfl
  have hx2 : (Value.builtin "BaseException.__getattribute__" == Value.builtin "object.__getattribute__") = false := by decide +kernel
  have hx1 : (onTheHeap (Value.ref D) && Value.builtin "BaseException.__getattribute__" == Value.builtin "object.__getattribute__") = false := by rw [hx2] <;> rfl
  unfold getAttr? getAttrBy? getAttrBy
  refine wpAny_bind (wpAny_mkText (wpAny_bind (wpAny_attempt (wpAny_holding (wpAny_bind (L0.at (wpAny_bind (L1.at ?_))))))))
  show wpAny _ _ (if (onTheHeap (Value.ref D) && Value.builtin "BaseException.__getattribute__" == Value.builtin "object.__getattribute__") = true then _ else _) _ _ _
  rw [hx1, if_neg Bool.false_ne_true]
  unfold getAttrByItsOwn hookBefore
  refine wpAny_bind ?_
  rw [if_pos (show onTheHeap (Value.ref D) = true from rfl)]
  refine L2.at ?_
  refine wpAny_bind (wpAny_attempt (wpAny_holding ?_))
  unfold callGetattribute
  rw [hx0, if_neg Bool.false_ne_true]
  unfold boundAndCalled
  rw [PySem.F.excAttr_ValueError.ga.bind (.ref x)]
  refine wpAny_bind (wpAny_pure ?_)
  show wpAny _ _ (call (.builtin "BaseException.__getattribute__") [.ref x, .str "__class__" t]) _ _ _
  refine wpAny_call (codeAny_call_builtin PySem.F.excAttr_ValueError.ga.plain PySem.F.entry_bexc_ga ?_)
  refine @check_slot (model prog w) _ _ ⟨hp, g, d, t + 1, os⟩ "BaseException.__getattribute__" "BaseException" "__getattribute__" (.ref x) [.str "__class__" t] [] _ (by decide +kernel) (by decide +kernel) sub (PySem.F.args_bexc_ga (.ref x) (.str "__class__" t)) ?_
  unfold Builtin.«object.__getattribute__»
  refine wpAny_bind (wpAny_of_eq (a := ((Value.ref x : Value), [Value.str "__class__" t])) (by first | rfl | (simp only [slotArgs]; rfl)) ?_)
  refine wpAny_bind (wpAny_pure (wpAny_bind (L0.at (wpAny_bind (L3.at ?_)))))
  show wpAny _ _ (holding [Value.builtin "object.__class__"] (call (.builtin "getset_descriptor.__get__") [.builtin "object.__class__", .ref x, .ref D]) >>= ret) _ _ _
  refine wpAny_bind (wpAny_holding (wpAny_call (class_get (s := ⟨hp, g, d, t + 1, os⟩) (ox := ox) (od := od) X I T.hm ?_)))
  refine wpAny_pure ?_
  show wpAny _ _ (handedOut (.ref D)) _ _ _
  rw [handedOut_of (v := .ref D) rfl]
  first
    | exact wpAny_pure (wpAny_pure h)
    | exact wpAny_pure h
    | exact wpAny_pure (wpAny_bind (wpAny_pure (wpAny_pure h)))
theorem kit_of (T : L2.ExcC K D) : KitX K (.ref x) (.ref D) (fun h => ∃ od, InstAt h x ox D od) where
  ty := fun _ _ _ ⟨_, I⟩ => I.type
  it := fun _ _ X _ => by
    obtain ⟨cdD, hcD, _⟩ := any_some T.hd
    unfold clsIn at hcD
    split at hcD
    · rename_i c' d' cd' sl' ho
      intro A' Q' E' s' k q
      unfold isType loadHead
      exact wpAny_bind (wpAny_loadPart (k _ _ (X _ _ ho)) (wpAny_pure q))
    · cases hcD
  ne := fun h tp dd its n sl X htp => by
    obtain ⟨cdD, hcD, _⟩ := any_some T.hd
    refine Bool.eq_false_iff.mpr fun q => ?_
    have e : D = tp := Value.ref.inj (beq_iff_eq.mp q)
    subst e
    unfold clsIn at hcD
    split at hcD
    · rename_i c' d' cd' sl' ho
      have z := (X _ _ ho).symm.trans htp
      cases z
    · cases hcD
  ca := fun X ⟨_, I⟩ k => cls_of T X I k
end
end Pl
namespace Pl
open PySem PySem.Spec PyProof.Rows L2 RZ PySem.Calls NdefX
/-- isinstance(e, c), e the error that the suite holds -/
def rIsX (K : PySem.W.Frag) (a : Addr) (cls : Value) (d : Option Addr) : List V → Hp → VK → Prop := fun xs H Q => ∃ (D Cc : Addr) (b : Bool), xs = [.ref a, .ref Cc] ∧ cls = .ref D ∧ ExcC K D ∧ (d = none ∨ ∃ dd fs, d = some dd ∧ H dd = some (.xd fs)) ∧ PySem.W.kitOne K (.ref D) (.ref Cc) = some b ∧ Q (.bl b) H
theorem call_isX {X : Cx} {K : PySem.W.Frag} {a : Addr} {oe : Obj} {cls : Value} {d : Option Addr} {pn : List (Addr × Obj)} (hz : Zc cls d oe) (hf : ∃ vs, oe.data = .fields vs) (hK : X.K = K := by rfl) : CallR (X.suite a ((a, oe) :: pn)) (.builtin "isinstance") (rIsX K a cls d) := by
  subst hK
  intro pins s σ H xs us Q I r h
  obtain ⟨D, Cc, b, rfl, rfl, C, hd, e, q⟩ := h
  cases r with
  | cons rx rr =>
    cases rr with
    | cons rt rr =>
      cases rr
      cases rx
      cases rt
      obtain ⟨hget, _⟩ := I.pin (a, oe) (List.mem_append.mpr (.inl List.mem_cons_self))
      obtain ⟨vs, hv⟩ := hf
      have J : ∃ od, PySem.W.InstAt s.heap a oe D od := by
        rcases hd with rfl | ⟨dd, fs, rfl, hx⟩
        · exact ⟨none, hget, hz.1, by unfold PySem.W.notCls; rw [hv] <;> rfl, by rw [hz.2] <;> trivial⟩
        · have hx : ObjOk X.prog X.w H s.heap dd (.xd fs) := I.hok dd _ hx
          obtain ⟨mA, hns, _⟩ := hx
          obtain ⟨od, ho, _⟩ := lookIn_ns hns
          exact ⟨some od, hget, hz.1, by unfold PySem.W.notCls; rw [hv] <;> rfl, by rw [hz.2]; exact ho⟩
      exact PySem.W.kia_one (kit_of C) I.kIn J e (fun z => nomatch z) fun tk => ⟨.bl b, H, I.kept (t' := tk) fun _ _ z => z, rfl, q⟩
end Pl

set_option Elab.async false
set_option linter.all false
set_option maxRecDepth 100000
set_option maxHeartbeats 2000000
/-! calls and operators whose errors are taken at the slots where they stand -/
namespace Pl
open PySem PySem.Spec PyProof.Rows L2 RZ PySem.Calls
section
variable {P : Program} {w : World} {K : PySem.W.Frag} {mg : Str → Option Value} {base : Heap} {N : List Str} {qual : Str} {scope : Scope} {f : Addr} {cd : Value} {A : Around} {outer : List Env} {s : Shared} {H : Hp} {E : XK}
theorem tkx : Takes (cxOf (L2.CX P w) P w K mg base N qual scope f cd A outer s H E) (fun cls d _ H => E cls d H) := takes_of rfl rfl rfl rfl
theorem pxx : Passes (L2.CX P w) (cxOf (L2.CX P w) P w K mg base N qual scope f cd A outer s H E) E := passes_call tkx fun _ _ _ _ h => h
end
section
variable {X : Cx} {CX : CXT} {k : Nat} {f C : Addr} {fd : FuncData} {ps : List Str} {sp : Sp} {E : L2.St → XK} {x m : Str} {p pos apos : Pos} {e o : Expr} {es : List Expr} {ta tb : TE} {t : TA} {ds : List Value} {dvs : List V}
theorem run_fnT {pins : List (Addr × Obj)} {σ : L2.St} {H : Hp} {s : Shared} {Q : VK} {us : List Value} {vs : List V} (F : FnOk X.prog X.w X.K X.mg X.base CX k f fd ps sp) (hr : Room k X.A) (hb : Binds X.K fd ps ds) (hd : Vals dvs ds) (hx : PassesAt CX X σ (E σ))
    (I : Inv X pins σ H s) (r : Vals vs us) (h : sp (vs ++ dvs) H Q (E σ)) : wpAny (model X.prog X.w) X.A (call (.ref f) us) (EP X pins σ Q) X.xe s := by
  have r2 := r.append hd
  have hl : (us ++ ds).length = ps.length := by rw [← r2.length]; exact F.len _ _ _ _ h
  refine wpAny_call (codeAny_mono (F.run X.A X.stack s H ⟨us, []⟩ (us ++ ds) (vs ++ dvs) Q (E σ) hr I.env0 (hb s us I.kIn hl) r2 h) fun r s' hq => ?_)
  cases r with
  | error e => exact hx pins H s e s' I hq
  | ok fl =>
    cases fl with
    | ret u => exact I.after hq
    | next => exact False.elim hq
    | brk => exact False.elim hq
    | cont => exact False.elim hq
/-- o.m(e, ..) -/
def tMethS (C : Addr) (m : Str) (sp : Sp) (dvs : List V) (E : L2.St → XK) (ta : TE) (t : TA) : TE := fun σ H Q => ta σ H fun x H1 => ∃ a dx fs, x = .ref a ∧ H1 a = some (.ins C dx fs) ∧ fs.lookup m = none ∧ t σ H1 fun vs H2 => sp (x :: (vs ++ dvs)) H2 Q (E σ)
theorem pe_methS {pl : Sem Bool} (he : PE X o ta) (c : Cls X.K C) (hm : Meth X.K C m f) (F : FnOk X.prog X.w X.K X.mg X.base CX k f fd ps sp) (hr : Room k X.A) (hb : Binds X.K fd ps ds) (hd : Vals dvs ds) (hx : ∀ σ, PassesAt CX X σ (E σ)) (ha : PA X (e :: es) t)
    (hst : starEach (e :: es) X.env = (false, eval e X.env) :: starEach es X.env := by rfl) (hpl : (backTo pos (starEach es X.env)).any (·.1) = false := by rfl)
    (ht : eval (.Call (.Attribute o m apos) (e :: es) [] pos) X.env = (do
      let ov ← eval o X.env
      standAt apos.atName
      let (f, first) ← holding [ov] (getMethod ov m pl)
      callWith pos f first (backTo pos (starEach (e :: es) X.env)) (backToKw pos (keywordEach [] X.env))) := by rfl) : PE X (.Call (.Attribute o m apos) (e :: es) [] pos) (tMethS C m sp dvs E ta t) := by
  refine ⟨fun pins s σ H Q I h => ?_⟩
  refine PySem.W.methodCall_KW (pl := pl) (thn (he.run pins s σ H _ I h) fun u s1 ⟨x, H1, I1, rx, a, dx, fs, ex, ea, l, q⟩ => ?_) ht
  subst ex
  obtain rfl : u = Value.ref a := rx
  refine getmeth_ok I1 ea c hm l ?_
  refine PySem.W.callWith_K (first := [.ref a]) (h₀ := X.base) I.ok.mod.kin hm.kp (thn (ha.run pos pins s1 σ H1 _ I1 q) fun us s2 ⟨vs, H2, I2, r, q2⟩ => ⟨I2.kIn, ?_⟩) hst hpl
  exact run_fnT (us := .ref a :: us) (vs := .ref a :: vs) F hr hb hd (hx σ) I2 (.cons rfl r) q2
theorem pe_methS0 {pl : Sem Bool} (he : PE X o ta) (c : Cls X.K C) (hm : Meth X.K C m f) (F : FnOk X.prog X.w X.K X.mg X.base CX k f fd ps sp) (hr : Room k X.A) (hb : Binds X.K fd ps ds) (hd : Vals dvs ds) (hx : ∀ σ, PassesAt CX X σ (E σ))
    (ht : eval (.Call (.Attribute o m apos) [] [] pos) X.env = (do
      let ov ← eval o X.env
      standAt apos.atName
      let (f, first) ← holding [ov] (getMethod ov m pl)
      callWith pos f first (backTo pos (starEach [] X.env)) (backToKw pos (keywordEach [] X.env))) := by rfl) : PE X (.Call (.Attribute o m apos) [] [] pos) (tMethS C m sp dvs E ta tNil) := by
  refine ⟨fun pins s σ H Q I h => ?_⟩
  refine PySem.W.methodCall_KW (pl := pl) (thn (he.run pins s σ H _ I h) fun u s1 ⟨x, H1, I1, rx, a, dx, fs, ex, ea, l, q⟩ => ?_) ht
  subst ex
  obtain rfl : u = Value.ref a := rx
  refine getmeth_ok I1 ea c hm l ?_
  refine PySem.W.callWith_K0 (first := [.ref a]) I1.kIn hm.kp ?_
  exact run_fnT (us := [.ref a]) (vs := [.ref a]) F hr hb hd (hx σ) I1 (.cons rfl .nil) q
/-- x op y of two instances of one class -/
def OpRS (X : Cx) (f : Value → Value → Sem Value) (r : L2.St → R2) : Prop := ∀ (pins : List (Addr × Obj)) (s : Shared) (σ : L2.St) (H : Hp) (x y : V) (v u : Value) (Q : VK), Inv X pins σ H s → RelV x v → RelV y u → r σ x y H Q → wpAny (model X.prog X.w) X.A (f v u) (EP X pins σ Q) X.xe s
def tOpS (r : L2.St → R2) (ta tb : TE) : TE := fun σ H Q => ta σ H fun x H1 => tb σ H1 fun y H2 => r σ x y H2 Q
theorem pe_opS {a b : Expr} {op : Operator} {r : L2.St → R2} (ho : OpRS X (binaryOp op) r) (ha : PE X a ta) (hb : PE X b tb) : PE X (.BinOp a op b pos) (tOpS r ta tb) := ⟨fun pins s σ H Q I h => wpAny_BinOp (thn (ha.run pins s σ H _ I h) fun v s1 ⟨x, H1, I1, r1, q1⟩ => thn (hb.run pins s1 σ H1 _ I1 q1) fun u s2 ⟨y, H2, I2, r2, q2⟩ => ho pins s2 σ H2 x y v u Q I2 r1 r2 q2)⟩
theorem op_ownS {op : Operator} (hm : Meth X.K C x f) (sf : PySem.W.selfFirst X.K C = true) (F : FnOk X.prog X.w X.K X.mg X.base CX k f fd ps sp) (hr : Room k X.A) (hb : Binds X.K fd ps []) (hx : ∀ σ, PassesAt CX X σ (E σ)) (hn : PySem.dunder op.info.2 = x := by first | rfl | decide +kernel) :
    OpRS X (binaryOp op) (fun σ => rOwn C sp (E σ)) := by
  intro pins s σ H x' y v u Q I rx ry h
  obtain ⟨a, b, dx, dy, fs, gs, rfl, rfl, ha, hb', hsp⟩ := h
  cases rx
  cases ry
  obtain ⟨mA, J, _⟩ := ins_get I.hok ha
  obtain ⟨mB, J', _⟩ := ins_get I.hok hb'
  obtain ⟨od, J, _⟩ := J.look
  obtain ⟨od', J', _⟩ := J'.look
  obtain ⟨m, hF⟩ := I.fr
  subst hn
  refine PySem.W.binop_K hF I.ok.mod.kin J J'.type sf hm.at_ hm.fn ?_
  exact wpAny_mono (run_fnT (us := [.ref a, .ref b]) (vs := [.ref a, .ref b]) F hr hb .nil (hx σ) I (.cons rfl (.cons rfl .nil)) hsp) (fun v s' q => cmpBack_of q) fun _ _ z => z
/-- C(e, ..) -/
def tMakeS (C : Addr) (sp : Sp) (dvs : List V) (E : L2.St → XK) (t : TA) : TE := fun σ H Q => t σ H fun vs H1 => ∀ x dx, H1 x = none → H1 dx = none → dx ≠ x → sp (.ref x :: (vs ++ dvs)) (upd (upd H1 dx (.own x)) x (.ins C dx [])) (fun v H2 => v = .non ∧ Q (.ref x) H2) (E σ)
theorem run_makeS {pins : List (Addr × Obj)} {σ : L2.St} {H : Hp} {s : Shared} {Q : VK} {us : List Value} {vs : List V} (M : Mk X.K C f) (F : FnOk X.prog X.w X.K X.mg X.base CX k f fd ps sp) (hr : Room (k + 1) X.A) (hb : Binds X.K fd ps ds) (hd : Vals dvs ds) (hx : PassesAt CX X σ (E σ)) (I : Inv X pins σ H s) (r : Vals vs us)
    (h : ∀ x dx, H x = none → H dx = none → dx ≠ x → sp (.ref x :: (vs ++ dvs)) (upd (upd H dx (.own x)) x (.ins C dx [])) (fun v H2 => v = .non ∧ Q (.ref x) H2) (E σ)) : wpAny (model X.prog X.w) X.A (call (.ref C) us) (EP X pins σ Q) X.xe s := by
  have hq := h (s.heap.objs.size + 1) s.heap.objs.size (I.hok.fresh (Nat.le_succ _)) (I.hok.fresh (Nat.le_refl _)) (Nat.ne_of_lt (Nat.lt_succ_self _))
  have I2 := Inv.made (C := C) I
  have r2 : Vals (V.ref (s.heap.objs.size + 1) :: (vs ++ dvs)) (Value.ref (s.heap.objs.size + 1) :: (us ++ ds)) := .cons rfl (r.append hd)
  have hl : (Value.ref (s.heap.objs.size + 1) :: us ++ ds).length = ps.length := by
    have e := r2.length
    rw [F.len _ _ _ _ hq] at e
    exact e.symm
  refine wpAny_call (make_map (f := f) I.kIn M.makes M.init (beq_iff_eq.mp M.fn) (codeAny_mono (F.run _ X.stack _ _ ⟨Value.ref (s.heap.objs.size + 1) :: us, []⟩ (Value.ref (s.heap.objs.size + 1) :: (us ++ ds)) _ _ (E σ) (hr.make C us []) (I2.env0.make C us []) (hb _ (Value.ref (s.heap.objs.size + 1) :: us) I2.kIn hl) r2 hq) fun r s' hq' => ?_))
  cases r with
  | error e => exact hx pins _ _ e s' I2 hq'
  | ok fl =>
    cases fl with
    | ret u =>
      obtain ⟨v, H', I3, rv, ev, q3⟩ := I2.after hq'
      subst ev
      exact ⟨rv, ⟨V.ref (s.heap.objs.size + 1), H', I3, rfl, q3⟩⟩
    | next => exact False.elim hq'
    | brk => exact False.elim hq'
    | cont => exact False.elim hq'
theorem pe_makeS (M : Mk X.K C f) (F : FnOk X.prog X.w X.K X.mg X.base CX k f fd ps sp) (hr : Room (k + 1) X.A) (hg : Gl X x) (hm : X.mg x = some (.ref C)) (hb : Binds X.K fd ps ds) (hd : Vals dvs ds) (hx : ∀ σ, PassesAt CX X σ (E σ)) (ha : PA X (e :: es) t) (hdb : (x == ("__debug__" : Str)) = false := by decide)
    (he : starEach (e :: es) X.env = (false, eval e X.env) :: starEach es X.env := by rfl) (hpl : (backTo pos (starEach es X.env)).any (·.1) = false := by rfl) : PE X (.Call (.Name x p) (e :: es) [] pos) (tMakeS C sp dvs E t) := by
  refine ⟨fun pins s σ H Q I h => ?_⟩
  refine wpAny_Call_Name_kw (ld_glob I hg hm ?_ hdb)
  refine PySem.W.callWith_K (h₀ := X.base) I.ok.mod.kin M.kp (thn (ha.run pos pins s σ H _ I h) fun us s1 ⟨vs, H1, I1, r, q⟩ => ⟨I1.kIn, ?_⟩) he hpl
  exact run_makeS M F hr hb hd (hx σ) I1 r q
/-- C.m(e, ..), m a staticmethod -/
def tSMethS (C : Addr) (sp : Sp) (E : L2.St → XK) (ta : TE) (t : TA) : TE := fun σ H Q => ta σ H fun x H1 => x = .ref C ∧ t σ H1 fun vs H2 => sp vs H2 Q (E σ)
theorem pe_smethS {pp g : Addr} {pl : Sem Bool} (he : PE X o ta) (c : SMet X.K C m pp g) (F : FnOk X.prog X.w X.K X.mg X.base CX k g fd ps sp) (hr : Room k X.A) (hk : PySem.W.keepIn X.K (.ref g) = true) (hb : Binds X.K fd ps []) (hx : ∀ σ, PassesAt CX X σ (E σ)) (ha : PA X (e :: es) t)
    (hst : starEach (e :: es) X.env = (false, eval e X.env) :: starEach es X.env := by rfl) (hpl : (backTo pos (starEach es X.env)).any (·.1) = false := by rfl)
    (ht : eval (.Call (.Attribute o m apos) (e :: es) [] pos) X.env = (do
      let ov ← eval o X.env
      standAt apos.atName
      let (f, first) ← holding [ov] (getMethod ov m pl)
      callWith pos f first (backTo pos (starEach (e :: es) X.env)) (backToKw pos (keywordEach [] X.env))) := by rfl) : PE X (.Call (.Attribute o m apos) (e :: es) [] pos) (tSMethS C sp E ta t) := by
  refine ⟨fun pins s σ H Q I h => ?_⟩
  refine PySem.W.methodCall_KW (pl := pl) (thn (he.run pins s σ H _ I h) fun u s1 ⟨x, H1, I1, rx, ex, q⟩ => ?_) ht
  subst ex
  obtain rfl : u = Value.ref C := rx
  obtain ⟨rest, hp⟩ := c.rc
  refine PySem.W.method_cls I1.kIn c.ga (PySem.W.cls_bind I1.kIn c.rd c.at_ (wpAny_call (PySem.W.sm_get (s := { s1 with toks := s1.toks + 1 }) I1.kIn hp (PySem.W.handed_on rfl ?_))))
  refine PySem.W.callWith_K (h₀ := X.base) I.ok.mod.kin hk (thn (ha.run pos pins _ σ H1 _ (I1.tok _) q) fun us s2 ⟨vs, H2, I2, r, q2⟩ => ⟨I2.kIn, ?_⟩) hst hpl
  exact run_fnT F hr hb .nil (hx σ) I2 r (by rw [List.append_nil]; exact q2)
end
end Pl
namespace Pl
open PySem PySem.Spec PyProof.Rows L2 RZ PySem.Calls
theorem pxn {X : Cx} : Passes (L2.CX X.prog X.w) X E0 := passes_call takes0 fun _ _ _ _ h => h
end Pl
namespace Pl
open PySem PySem.Spec PyProof.Rows L2 RZ PySem.Calls
instance iSupCx {CX : CXT} {P : Program} {w : World} {K : PySem.W.Frag} {mg : Str → Option Value} {base : Heap} {N : List Str} {qual : Str} {scope : Scope} {f : Addr} {cd : Value} {A : Around} {outer : List Env} {s : Shared} {H : Hp} {E : XK} [h : SupP P] : SupP (cxOf CX P w K mg base N qual scope f cd A outer s H E).prog := h
instance iSupNox {X : Cx} [h : SupP X.prog] : SupP X.nox.prog := h
instance iSupBlk {X : Cx} {s : Shared} {H : Hp} {sc : Scope} {e : Env} {fp : List Addr} [h : SupP X.prog] : SupP (X.blk s H sc e fp).prog := h
instance iSupTr {X : Cx} {pn : List (Addr × Obj)} {xe : Value → Shared → Prop} [h : SupP X.prog] : SupP (X.tr pn xe).prog := h
instance iSupSuite {X : Cx} {a : Addr} {pn : List (Addr × Obj)} [h : SupP X.prog] : SupP (X.suite a pn).prog := h
end Pl
namespace Pl
open PySem PySem.Spec PyProof.Rows L2 RZ PySem.Calls
theorem pown {P : Program} {w : World} {K : PySem.W.Frag} {mg : Str → Option Value} {base : Heap} {N : List Str} {qual : Str} {scope : Scope} {f : Addr} {cd : Value} {A : Around} {outer : List Env} {s : Shared} {H : Hp} {E : XK} :
    PassesOwn (model (cxOf (L2.CX P w) P w K mg base N qual scope f cd A outer s H E).prog (cxOf (L2.CX P w) P w K mg base N qual scope f cd A outer s H E).w) (cxOf (L2.CX P w) P w K mg base N qual scope f cd A outer s H E).A (cxOf (L2.CX P w) P w K mg base N qual scope f cd A outer s H E).env (cxOf (L2.CX P w) P w K mg base N qual scope f cd A outer s H E).xe := passes_of rfl
end Pl
namespace Pl
open PySem PySem.Spec PyProof.Rows L2 RZ PySem.Calls
section
variable {σ : L2.St} {H : Hp} {Q : VK} {D : Ends}
theorem k_callS {sp : Sp} {E : L2.St → XK} {t : TA} (q : t σ H fun vs H1 => sp vs H1 Q (E σ)) : tCallS sp E t σ H Q := q
theorem k_methS {C : Addr} {m : Str} {sp : Sp} {dvs : List V} {E : L2.St → XK} {ta : TE} {t : TA} (q : ta σ H fun x H1 => ∃ a dx fs, x = .ref a ∧ H1 a = some (.ins C dx fs) ∧ fs.lookup m = none ∧ t σ H1 fun vs H2 => sp (x :: (vs ++ dvs)) H2 Q (E σ)) : tMethS C m sp dvs E ta t σ H Q := q
theorem k_opS {r : L2.St → R2} {ta tb : TE} (q : ta σ H fun x H1 => tb σ H1 fun y H2 => r σ x y H2 Q) : tOpS r ta tb σ H Q := q
theorem k_smethS {C : Addr} {sp : Sp} {E : L2.St → XK} {ta : TE} {t : TA} (q : ta σ H fun x H1 => x = .ref C ∧ t σ H1 fun vs H2 => sp vs H2 Q (E σ)) : tSMethS C sp E ta t σ H Q := q
theorem k_smeth {C : Addr} {sp : Sp} {E : XK} {ta : TE} {t : TA} (q : ta σ H fun x H1 => x = .ref C ∧ t σ H1 fun vs H2 => sp vs H2 Q E) : tSMeth C sp E ta t σ H Q := q
theorem k_atEnd {i : Nat} (q : D.nx (σ.set i none) H) : (atEnd D i).nx σ H := q
theorem k_atRt {i : Nat} {v : V} (q : D.rt v H) : (atEnd D i).rt v H := q
theorem k_WE {W : WX} {cls : Value} {d : Option Addr} (q : W cls d σ H) : WE W σ cls d H := q
/-- an error of the clause's own class / of another one -/
theorem k_hit {K : PySem.W.Frag} {Wout : WX} {c : Value} {i : Nat} {ts : Suite} {r : List (Value × Nat × Suite)} {cls : Value} {d : Option Addr} (h : (PySem.W.exmOne K cls c == some true) = true) (q : ∀ a, H a = none → ts a cls d (atEnd D i) (σ.set i (some (.ref a))) H) : wAll K Wout D ((c, i, ts) :: r) cls d σ H :=
  ⟨true, eq_of_beq h, fun _ => q, fun e => Bool.noConfusion e⟩
theorem k_miss {K : PySem.W.Frag} {Wout : WX} {c : Value} {i : Nat} {ts : Suite} {r : List (Value × Nat × Suite)} {cls : Value} {d : Option Addr} (h : (PySem.W.exmOne K cls c == some false) = true) (q : wAll K Wout D r cls d σ H) : wAll K Wout D ((c, i, ts) :: r) cls d σ H :=
  ⟨false, eq_of_beq h, fun e => Bool.noConfusion e, fun _ => q⟩
theorem k_isX {K : PySem.W.Frag} {a D Cc : Addr} {d : Option Addr} {b : Bool} (C : ExcC K D) (hd : d = none ∨ ∃ dd fs, d = some dd ∧ H dd = some (.xd fs)) (h : (PySem.W.kitOne K (.ref D) (.ref Cc) == some b) = true) (q : Q (.bl b) H) : rIsX K a (.ref D) d [.ref a, .ref Cc] H Q := ⟨D, Cc, b, rfl, rfl, C, hd, eq_of_beq h, q⟩
theorem k_xf {a C dd : Addr} {f : Str} {te : TE} (q : te σ H fun x H1 => x = .ref a ∧ ∃ (fs : List (Str × V)) (v : V), H1 dd = some (.xd fs) ∧ fs.lookup f = some v ∧ Q v H1) (hm : ∀ {R R' : VK}, (∀ x H, R x H → R' x H) → te σ H R → te σ H R') : tXf a (.ref C) (some dd) C f te σ H Q :=
  hm (fun x H1 ⟨e, fs, v, h1, h2, h3⟩ => ⟨e, rfl, dd, fs, v, rfl, h1, h2, h3⟩) q
/-- e.f, e the caught error at its slot -/
theorem k_xfv {a C dd : Addr} {f : Str} {i : Nat} {fs : List (Str × V)} {v : V} (h1 : H dd = some (.xd fs)) (h2 : fs.lookup f = some v) (h0 : σ[i]? = some (some (.ref a))) (q : Q v H) : tXf a (.ref C) (some dd) C f (tVar i) σ H Q := ⟨_, h0, rfl, rfl, dd, fs, v, rfl, h1, h2, q⟩
theorem k_newT {K : PySem.W.Frag} {xs : List V} (h : xs.length ≤ 100000) (q : ∀ H' p, Same H H' → SqT K H' p xs → Q (.ref p) H') : xs.length ≤ sizeLine ∧ NewT K xs H Q := ⟨Nat.le_trans h (by rw [sizeLine_eq]; omega), q⟩
theorem k_newL {xs : List V} (h : xs.length ≤ 100000) (q : ∀ H' p, Same H H' → H p = none → H' p = some (.lst xs) → Q (.ref p) H') : xs.length ≤ sizeLine ∧ NewL xs H Q := ⟨Nat.le_trans h (by rw [sizeLine_eq]; omega), q⟩
end
end Pl
namespace Pl
open PySem PySem.Spec PyProof.Rows L2 RZ PySem.Calls
section
variable {σ : L2.St} {H : Hp} {Q : VK} {D : Ends}
theorem k_par {i j : Nat} {ta : TA} (q : ta σ H fun vs H1 => ∃ v w, vs = [v, w] ∧ D.nx ((σ.set i (some v)).set j (some w)) H1) : tPar i j ta D σ H := q
theorem k_par3 {i j k : Nat} {ta : TA} (q : ta σ H fun vs H1 => ∃ v w z, vs = [v, w, z] ∧ D.nx (((σ.set i (some v)).set j (some w)).set k (some z)) H1) : tPar3 i j k ta D σ H := q
theorem k_two {a b : V} {R : V → V → Prop} (q : R a b) : ∃ v w, [a, b] = [v, w] ∧ R v w := ⟨a, b, rfl, q⟩
theorem k_three {a b c : V} {R : V → V → V → Prop} (q : R a b c) : ∃ v w z, [a, b, c] = [v, w, z] ∧ R v w z := ⟨a, b, c, rfl, q⟩
theorem k_self {C : Addr} {R : Prop} (q : R) : V.ref C = .ref C ∧ R := ⟨rfl, q⟩
theorem k_neS {a b : Str} (q : Q (.bl (!decide (V.str a = V.str b))) H) : rNe (.str a) (.str b) H Q := ⟨rfl, q⟩
theorem k_eqS {a b : Str} (q : Q (.bl (decide (V.str a = V.str b))) H) : rEq (.str a) (.str b) H Q := ⟨rfl, q⟩
theorem k_ixT {K : PySem.W.Frag} {a : Addr} {xs : List V} {n : Nat} {v : V} (h : SqT K H a xs) (e : xs[n]? = some v) (q : Q v H) : rIxT K (.ref a) (.int (n : Nat)) H Q := ⟨_, _, _, _, rfl, rfl, h, atI_nat e, q⟩
theorem k_pair {K : PySem.W.Frag} {i j : Nat} {T : Addr} {x y : V} {N : L2.St → Hp → Prop} (h : SqT K H T [x, y]) (q : N ((σ.set i (some x)).set j (some y)) H) : gTup K 2 (gCons (gName i) (gCons (gName j) gNil)) (.ref T) σ H N := g_pair h q
end
/-! scalars, compared in tuples -/
def scD : V → PyData
  | .non => .none
  | .bl b => .bool b
  | .int i => .int i
  | .str x => .str x
  | _ => .none
def scB : V → Bool
  | .non => true
  | .bl _ => true
  | .int _ => true
  | .str x => PyData.strOk x
  | _ => false
theorem scD_ok {K : PySem.W.Frag} {H : Hp} : ∀ v : V, scB v = true → Dp K H v (scD v)
  | .non, _ => .non
  | .bl b, _ => .bl b
  | .int i, _ => .int i
  | .str x, _ => .str x
  | .byt _, h => by cases h
  | .flt _, h => by cases h
  | .ref _, h => by cases h
  | .ty _, h => by cases h
theorem scD_all {K : PySem.W.Frag} {H : Hp} : ∀ xs : List V, xs.all scB = true → DpAll K H xs (xs.map scD)
  | [], _ => .nil
  | a :: r, h => by
    rw [List.all_cons, Bool.and_eq_true] at h
    exact .cons (scD_ok a h.1) (scD_all r h.2)
theorem sc_lay : ∀ xs : List V, xs.all scB = true → PyData.canLayAll0 (xs.map scD) = true
  | [], _ => by simp [PyData.canLayAll0]
  | a :: r, h => by
    rw [List.all_cons, Bool.and_eq_true] at h
    have ih := sc_lay r h.2
    have h1 := h.1
    cases a <;> simp [PyData.canLayAll0, PyData.canLay0, scD, ih]
    exact h1
theorem sc_depth : ∀ xs : List V, PyData.depthAll (xs.map scD) ≤ 1
  | [] => by simp [PyData.depthAll]
  | a :: r => by
    have ih := sc_depth r
    cases a <;> simp [PyData.depthAll, PyData.depth, scD] <;> omega
theorem sc_shaped (xs : List V) (h : xs.all scB = true) : SeqAt.shaped (.tuple (xs.map scD)) = true := by
  have h1 := sc_lay xs h
  have h2 := sc_depth xs
  simp [SeqAt.shaped, PyData.canLay0, PyData.depth, h1]
  omega
theorem sc_eqv : ∀ xs : List V, PyData.eqvAll (xs.map scD) (xs.map scD) = true
  | [] => by simp [PyData.eqvAll]
  | a :: r => by
    have ih := sc_eqv r
    cases a <;> simp [PyData.eqvAll, PyData.eqv, scD, ih]
theorem k_neT {K : PySem.W.Frag} {H : Hp} {a b : Addr} {xs : List V} {Q : VK} (h1 : SqT K H a xs) (h2 : SqT K H b xs) (h : xs.all scB = true) (q : Q (.bl false) H) : rNeD K (.ref a) (.ref b) H Q := by
  refine ⟨_, _, .tup h1 (scD_all xs h), .tup h2 (scD_all xs h), sc_shaped xs h, sc_shaped xs h, ?_⟩
  have e : PyData.eqv (.tuple (xs.map scD)) (.tuple (xs.map scD)) = true := by
    have := sc_eqv xs
    simp [PyData.eqv, this]
  rw [e]
  exact q
theorem k_eqT {K : PySem.W.Frag} {H : Hp} {a b : Addr} {xs : List V} {Q : VK} (h1 : SqT K H a xs) (h2 : SqT K H b xs) (h : xs.all scB = true) (q : Q (.bl true) H) : rEqD K (.ref a) (.ref b) H Q := by
  refine ⟨_, _, .tup h1 (scD_all xs h), .tup h2 (scD_all xs h), sc_shaped xs h, sc_shaped xs h, ?_⟩
  have e : PyData.eqv (.tuple (xs.map scD)) (.tuple (xs.map scD)) = true := by
    have := sc_eqv xs
    simp [PyData.eqv, this]
  rw [e]
  exact q
end Pl
namespace Pl
open PySem PySem.Spec PyProof.Rows L2 RZ PySem.Calls
section
variable {σ : L2.St} {H : Hp} {Q : VK} {D : Ends}
theorem k_nonR {R : Prop} (q : R) : V.non = V.non ∧ R := ⟨rfl, q⟩
theorem k_makeS {C : Addr} {sp : Sp} {dvs : List V} {E : L2.St → XK} {t : TA} (q : t σ H fun vs H1 => ∀ x dx, H1 x = none → H1 dx = none → dx ≠ x → sp (.ref x :: (vs ++ dvs)) (upd (upd H1 dx (.own x)) x (.ins C dx [])) (fun v H2 => v = .non ∧ Q (.ref x) H2) (E σ)) : tMakeS C sp dvs E t σ H Q := q
theorem k_make {C : Addr} {sp : Sp} {dvs : List V} {E : XK} {t : TA} (q : t σ H fun vs H1 => ∀ x dx, H1 x = none → H1 dx = none → dx ≠ x → sp (.ref x :: (vs ++ dvs)) (upd (upd H1 dx (.own x)) x (.ins C dx [])) (fun v H2 => v = .non ∧ Q (.ref x) H2) E) : tMake C sp dvs E t σ H Q := q
theorem k_refnon {a : Addr} {A B : Prop} (q : B) : if decide (V.ref a = V.non) = true then A else B := k_ifdF (fun z => by cases z) q
theorem look_one {f : Str} {v : V} : List.lookup f [(f, v)] = some v := by simp [List.lookup]
end
end Pl
namespace Pl
open PySem PySem.Spec PyProof.Rows L2 RZ PySem.Calls
theorem k_chain {σ : L2.St} {H : Hp} {Q : VK} {r r' : R2} {ta tb tc : TE} (q : ta σ H fun x H1 => tb σ H1 fun y H2 => r x y H2 fun z H3 => ∃ k, z = .bl k ∧ (if k = true then tc σ H3 fun w H4 => r' y w H4 Q else Q (.bl false) H3)) : tChain r r' ta tb tc σ H Q := q
end Pl

set_option Elab.async false
set_option linter.all false
set_option maxRecDepth 100000
set_option maxHeartbeats 4000000
namespace Pl
open PySem PySem.Spec PyProof.Rows L2 RZ
def top (i : Nat) : Stmt := PySem.Challenge.pw_packedlanes_k57_inputs_refused.main.body.getD i (.Pass ⟨0, 0, 0, 0⟩)
abbrev s_is_name : Stmt := top 17
theorem sc_is_name : FnScope ["word", "letter"] ["word"] (defScope s_is_name) := ⟨rfl, rfl, rfl, by decide +kernel, rfl, by decide +kernel, by decide +kernel⟩
abbrev s__copied : Stmt := top 18
theorem sc__copied : FnScope ["worth", "part"] ["worth"] (defScope s__copied) := ⟨rfl, rfl, rfl, by decide +kernel, rfl, by decide +kernel, by decide +kernel⟩
abbrev s__is_too_long : Stmt := top 19
theorem sc__is_too_long : FnScope ["number"] ["number"] (defScope s__is_too_long) := ⟨rfl, rfl, rfl, by decide +kernel, rfl, by decide +kernel, by decide +kernel⟩
abbrev s__check_input : Stmt := top 21
theorem sc__check_input : FnScope ["name", "ranges", "lanes", "least", "greatest", "pair", "end"] ["name", "ranges", "lanes"] (defScope s__check_input) := ⟨rfl, rfl, rfl, by decide +kernel, rfl, by decide +kernel, by decide +kernel⟩
abbrev s__counted_lanes : Stmt := top 20
theorem sc__counted_lanes : FnScope ["inputs", "steps", "lanes", "name", "ranges", "given", "number", "step"] ["inputs", "steps"] (defScope s__counted_lanes) := ⟨rfl, rfl, rfl, by decide +kernel, rfl, by decide +kernel, by decide +kernel⟩
abbrev s_Code___init__ : Stmt := inClass (top 16) 0
theorem sc_Code___init__ : FnScope ["self", "inputs", "steps"] ["self", "inputs", "steps"] (defScope s_Code___init__) := ⟨rfl, rfl, rfl, by decide +kernel, rfl, by decide +kernel, by decide +kernel⟩
abbrev s__law_draw : Stmt := top 34
theorem sc__law_draw : FnScope ["pen", "many", "spot", "at", "cell", "mixed"] ["pen", "many"] (defScope s__law_draw) := ⟨rfl, rfl, rfl, by decide +kernel, rfl, by decide +kernel, by decide +kernel⟩
abbrev s__law_pick : Stmt := top 35
theorem sc__law_pick : FnScope ["pen", "row"] ["pen", "row"] (defScope s__law_pick) := ⟨rfl, rfl, rfl, by decide +kernel, rfl, by decide +kernel, by decide +kernel⟩
abbrev s__law_word : Stmt := top 36
theorem sc__law_word : FnScope ["pen", "most", "letters", "k"] ["pen", "most"] (defScope s__law_word) := ⟨rfl, rfl, rfl, by decide +kernel, rfl, by decide +kernel, by decide +kernel⟩
abbrev s__law_names : Stmt := top 37
theorem sc__law_names : FnScope ["pen", "many", "found", "k", "name", "spare", "word", "n"] ["pen", "many"] (defScope s__law_names) := ⟨rfl, rfl, rfl, by decide +kernel, rfl, by decide +kernel, by decide +kernel⟩
abbrev s__law_number : Stmt := top 38
theorem sc__law_number : FnScope ["pen", "kind", "found"] ["pen"] (defScope s__law_number) := ⟨rfl, rfl, rfl, by decide +kernel, rfl, by decide +kernel, by decide +kernel⟩
abbrev s__law_pairs : Stmt := top 39
theorem sc__law_pairs : FnScope ["pen", "found", "k", "low", "at", "great"] ["pen"] (defScope s__law_pairs) := ⟨rfl, rfl, rfl, by decide +kernel, rfl, by decide +kernel, by decide +kernel⟩
abbrev s__law_due : Stmt := top 40
theorem sc__law_due : FnScope ["inputs", "great", "letters", "at", "name", "pairs", "good", "sign", "one", "low", "high", "ends", "pair"] ["inputs"] (defScope s__law_due) := ⟨rfl, rfl, rfl, by decide +kernel, rfl, by decide +kernel, by decide +kernel⟩
abbrev s__law_told : Stmt := top 41
theorem sc__law_told : FnScope ["inputs", "code", "told", "e"] ["inputs"] (defScope s__law_told) := ⟨rfl, rfl, rfl, by decide +kernel, rfl, by decide +kernel, by decide +kernel⟩
abbrev s_law : Stmt := top 42
theorem sc_law : FnScope ["script", "pen", "turn", "names", "at", "inputs", "name", "pairs"] ["script"] (defScope s_law) := ⟨rfl, rfl, rfl, by decide +kernel, rfl, by decide +kernel, by decide +kernel⟩
abbrev s_BadCode___init__ : Stmt := inClass (top 3) 0
def xd_BadCode : ExD := ⟨"BadCode", "BadCode.__init__", defArgs s_BadCode___init__, defBody s_BadCode___init__, defScope s_BadCode___init__, ["number"]⟩
abbrev s_TooGreat___init__ : Stmt := inClass (top 4) 0
def xd_TooGreat : ExD := ⟨"TooGreat", "TooGreat.__init__", defArgs s_TooGreat___init__, defBody s_TooGreat___init__, defScope s_TooGreat___init__, []⟩
structure Txt (K : PySem.W.Frag) (mg : Str → Option Value) : Prop where
  F_is_name : ∃ fd, FunD K "is_name" "is_name" (defArgs s_is_name) (defBody s_is_name) (defScope s_is_name) [] [] (He.fAd K ("is_name", none)) fd
  F__copied : ∃ fd, FunD K "_copied" "_copied" (defArgs s__copied) (defBody s__copied) (defScope s__copied) [] [] (He.fAd K ("_copied", none)) fd
  F__is_too_long : ∃ fd, FunD K "_is_too_long" "_is_too_long" (defArgs s__is_too_long) (defBody s__is_too_long) (defScope s__is_too_long) [] [] (He.fAd K ("_is_too_long", none)) fd
  F__check_input : ∃ fd, FunD K "_check_input" "_check_input" (defArgs s__check_input) (defBody s__check_input) (defScope s__check_input) [] [] (He.fAd K ("_check_input", none)) fd
  F__counted_lanes : ∃ fd, FunD K "_counted_lanes" "_counted_lanes" (defArgs s__counted_lanes) (defBody s__counted_lanes) (defScope s__counted_lanes) [] [] (He.fAd K ("_counted_lanes", none)) fd
  F_Code___init__ : ∃ fd, FunD K "__init__" "Code.__init__" (defArgs s_Code___init__) (defBody s_Code___init__) (defScope s_Code___init__) [] [] (He.fAd K ("Code", some "__init__")) fd
  F__law_draw : ∃ fd, FunD K "_law_draw" "_law_draw" (defArgs s__law_draw) (defBody s__law_draw) (defScope s__law_draw) [] [] (He.fAd K ("_law_draw", none)) fd
  F__law_pick : ∃ fd, FunD K "_law_pick" "_law_pick" (defArgs s__law_pick) (defBody s__law_pick) (defScope s__law_pick) [] [] (He.fAd K ("_law_pick", none)) fd
  F__law_word : ∃ fd, FunD K "_law_word" "_law_word" (defArgs s__law_word) (defBody s__law_word) (defScope s__law_word) [] [] (He.fAd K ("_law_word", none)) fd
  F__law_names : ∃ fd, FunD K "_law_names" "_law_names" (defArgs s__law_names) (defBody s__law_names) (defScope s__law_names) [] [] (He.fAd K ("_law_names", none)) fd
  F__law_number : ∃ fd, FunD K "_law_number" "_law_number" (defArgs s__law_number) (defBody s__law_number) (defScope s__law_number) [] [] (He.fAd K ("_law_number", none)) fd
  F__law_pairs : ∃ fd, FunD K "_law_pairs" "_law_pairs" (defArgs s__law_pairs) (defBody s__law_pairs) (defScope s__law_pairs) [] [] (He.fAd K ("_law_pairs", none)) fd
  F__law_due : ∃ fd, FunD K "_law_due" "_law_due" (defArgs s__law_due) (defBody s__law_due) (defScope s__law_due) [] [] (He.fAd K ("_law_due", none)) fd
  F__law_told : ∃ fd, FunD K "_law_told" "_law_told" (defArgs s__law_told) (defBody s__law_told) (defScope s__law_told) [] [] (He.fAd K ("_law_told", none)) fd
  F_law : ∃ fd, FunD K "law" "law" (defArgs s_law) (defBody s_law) (defScope s_law) [] [] (He.fAd K ("law", none)) fd
  m_is_name : mg "is_name" = some (.ref (He.fAd K ("is_name", none)))
  m__copied : mg "_copied" = some (.ref (He.fAd K ("_copied", none)))
  m__is_too_long : mg "_is_too_long" = some (.ref (He.fAd K ("_is_too_long", none)))
  m__check_input : mg "_check_input" = some (.ref (He.fAd K ("_check_input", none)))
  m__counted_lanes : mg "_counted_lanes" = some (.ref (He.fAd K ("_counted_lanes", none)))
  m__law_draw : mg "_law_draw" = some (.ref (He.fAd K ("_law_draw", none)))
  m__law_pick : mg "_law_pick" = some (.ref (He.fAd K ("_law_pick", none)))
  m__law_word : mg "_law_word" = some (.ref (He.fAd K ("_law_word", none)))
  m__law_names : mg "_law_names" = some (.ref (He.fAd K ("_law_names", none)))
  m__law_number : mg "_law_number" = some (.ref (He.fAd K ("_law_number", none)))
  m__law_pairs : mg "_law_pairs" = some (.ref (He.fAd K ("_law_pairs", none)))
  m__law_due : mg "_law_due" = some (.ref (He.fAd K ("_law_due", none)))
  m__law_told : mg "_law_told" = some (.ref (He.fAd K ("_law_told", none)))
  m_law : mg "law" = some (.ref (He.fAd K ("law", none)))
  m_BadCode : mg "BadCode" = some (.ref (He.ga K "BadCode"))
  m_LanesError : mg "LanesError" = some (.ref (He.ga K "LanesError"))
  m_TooGreat : mg "TooGreat" = some (.ref (He.ga K "TooGreat"))
  m_Code : mg "Code" = some (.ref (He.ga K "Code"))
  cl_Code : Cls K (He.ga K "Code")
  M_Code : Mk K (He.ga K "Code") (He.fAd K ("Code", some "__init__"))
  n_Code__lanes : NoAttr K (He.ga K "Code") "_lanes"
  n_Code_inputs : NoAttr K (He.ga K "Code") "inputs"
  n_Code_steps : NoAttr K (He.ga K "Code") "steps"
  z_abs : mg "abs" = none
  z_all : mg "all" = none
  z_any : mg "any" = none
  z_int : mg "int" = none
  z_isinstance : mg "isinstance" = none
  z_len : mg "len" = none
  z_list : mg "list" = none
  z_max : mg "max" = none
  z_range : mg "range" = none
  z_str : mg "str" = none
  z_tuple : mg "tuple" = none
  g__MOST_INPUTS : ∃ t, mg "_MOST_INPUTS" = some (.int 6 t)
  g__MOST_LETTERS : ∃ t, mg "_MOST_LETTERS" = some (.int 12 t)
  g__MOST_RANGES : ∃ t, mg "_MOST_RANGES" = some (.int 8 t)
  g__TOO_LONG : ∃ t, mg "_TOO_LONG" = some (.int 1000000000000000000000000000000000000000000000000000000000000000000000000000000000000000000000000000000000000000000000000000000000000000000000000000000000000000000000000000000000000000000000000000000000000000000000000000000000000000000000000000000000000000000000000000000000000000000000000000000000000000000000000000000000000000000000000000000000000000000000000000000000000000000000000000000000000000000000000000000000000000000000000000000000000000000000000000000000000000000000000000000000000000000000000000000000000000000000000000000000000000000000000000000000000000000000000000000000000000000000000 t)
  xm_BadCode_BadCode : (PySem.W.exmOne K (.ref (He.ga K "BadCode")) (.ref (He.ga K "BadCode")) == some true) = true
  xm_BadCode_TooGreat : (PySem.W.exmOne K (.ref (He.ga K "BadCode")) (.ref (He.ga K "TooGreat")) == some false) = true
  xm_TooGreat_BadCode : (PySem.W.exmOne K (.ref (He.ga K "TooGreat")) (.ref (He.ga K "BadCode")) == some false) = true
  xm_TooGreat_TooGreat : (PySem.W.exmOne K (.ref (He.ga K "TooGreat")) (.ref (He.ga K "TooGreat")) == some true) = true
  kt_BadCode_LanesError : (PySem.W.kitOne K (.ref (He.ga K "BadCode")) (.ref (He.ga K "LanesError")) == some true) = true
  kt_BadCode_TooGreat : (PySem.W.kitOne K (.ref (He.ga K "BadCode")) (.ref (He.ga K "TooGreat")) == some false) = true
  kt_TooGreat_BadCode : (PySem.W.kitOne K (.ref (He.ga K "TooGreat")) (.ref (He.ga K "BadCode")) == some false) = true
  kt_TooGreat_LanesError : (PySem.W.kitOne K (.ref (He.ga K "TooGreat")) (.ref (He.ga K "LanesError")) == some true) = true
  sf_Code : PySem.W.selfFirst K (He.ga K "Code") = true
  X_BadCode : ∃ fd cc cda, ExT K xd_BadCode fd cc cda
  X_TooGreat : ∃ fd cc cda, ExT K xd_TooGreat fd cc cda
section
variable {K : PySem.W.Frag} {mg : Str → Option Value}
noncomputable def Txt.d_is_name (T : Txt K mg) : FuncData := T.F_is_name.choose
theorem Txt.fn_is_name (T : Txt K mg) : FunD K "is_name" "is_name" (defArgs s_is_name) (defBody s_is_name) (defScope s_is_name) [] [] (He.fAd K ("is_name", none)) T.d_is_name := T.F_is_name.choose_spec
theorem Txt.b_is_name (T : Txt K mg) : Binds K T.d_is_name ["word"] [] := FunD.bindsN T.fn_is_name fun _ _ _ _ _ _ us hl => match us, hl with | [_], _ => rfl
noncomputable def Txt.d__copied (T : Txt K mg) : FuncData := T.F__copied.choose
theorem Txt.fn__copied (T : Txt K mg) : FunD K "_copied" "_copied" (defArgs s__copied) (defBody s__copied) (defScope s__copied) [] [] (He.fAd K ("_copied", none)) T.d__copied := T.F__copied.choose_spec
theorem Txt.b__copied (T : Txt K mg) : Binds K T.d__copied ["worth"] [] := FunD.bindsN T.fn__copied fun _ _ _ _ _ _ us hl => match us, hl with | [_], _ => rfl
noncomputable def Txt.d__is_too_long (T : Txt K mg) : FuncData := T.F__is_too_long.choose
theorem Txt.fn__is_too_long (T : Txt K mg) : FunD K "_is_too_long" "_is_too_long" (defArgs s__is_too_long) (defBody s__is_too_long) (defScope s__is_too_long) [] [] (He.fAd K ("_is_too_long", none)) T.d__is_too_long := T.F__is_too_long.choose_spec
theorem Txt.b__is_too_long (T : Txt K mg) : Binds K T.d__is_too_long ["number"] [] := FunD.bindsN T.fn__is_too_long fun _ _ _ _ _ _ us hl => match us, hl with | [_], _ => rfl
noncomputable def Txt.d__check_input (T : Txt K mg) : FuncData := T.F__check_input.choose
theorem Txt.fn__check_input (T : Txt K mg) : FunD K "_check_input" "_check_input" (defArgs s__check_input) (defBody s__check_input) (defScope s__check_input) [] [] (He.fAd K ("_check_input", none)) T.d__check_input := T.F__check_input.choose_spec
theorem Txt.b__check_input (T : Txt K mg) : Binds K T.d__check_input ["name", "ranges", "lanes"] [] := FunD.bindsN T.fn__check_input fun _ _ _ _ _ _ us hl => match us, hl with | [_, _, _], _ => rfl
noncomputable def Txt.d__counted_lanes (T : Txt K mg) : FuncData := T.F__counted_lanes.choose
theorem Txt.fn__counted_lanes (T : Txt K mg) : FunD K "_counted_lanes" "_counted_lanes" (defArgs s__counted_lanes) (defBody s__counted_lanes) (defScope s__counted_lanes) [] [] (He.fAd K ("_counted_lanes", none)) T.d__counted_lanes := T.F__counted_lanes.choose_spec
theorem Txt.b__counted_lanes (T : Txt K mg) : Binds K T.d__counted_lanes ["inputs", "steps"] [] := FunD.bindsN T.fn__counted_lanes fun _ _ _ _ _ _ us hl => match us, hl with | [_, _], _ => rfl
noncomputable def Txt.d_Code___init__ (T : Txt K mg) : FuncData := T.F_Code___init__.choose
theorem Txt.fn_Code___init__ (T : Txt K mg) : FunD K "__init__" "Code.__init__" (defArgs s_Code___init__) (defBody s_Code___init__) (defScope s_Code___init__) [] [] (He.fAd K ("Code", some "__init__")) T.d_Code___init__ := T.F_Code___init__.choose_spec
theorem Txt.b_Code___init__ (T : Txt K mg) : Binds K T.d_Code___init__ ["self", "inputs", "steps"] [] := FunD.bindsN T.fn_Code___init__ fun _ _ _ _ _ _ us hl => match us, hl with | [_, _, _], _ => rfl
noncomputable def Txt.d__law_draw (T : Txt K mg) : FuncData := T.F__law_draw.choose
theorem Txt.fn__law_draw (T : Txt K mg) : FunD K "_law_draw" "_law_draw" (defArgs s__law_draw) (defBody s__law_draw) (defScope s__law_draw) [] [] (He.fAd K ("_law_draw", none)) T.d__law_draw := T.F__law_draw.choose_spec
theorem Txt.b__law_draw (T : Txt K mg) : Binds K T.d__law_draw ["pen", "many"] [] := FunD.bindsN T.fn__law_draw fun _ _ _ _ _ _ us hl => match us, hl with | [_, _], _ => rfl
noncomputable def Txt.d__law_pick (T : Txt K mg) : FuncData := T.F__law_pick.choose
theorem Txt.fn__law_pick (T : Txt K mg) : FunD K "_law_pick" "_law_pick" (defArgs s__law_pick) (defBody s__law_pick) (defScope s__law_pick) [] [] (He.fAd K ("_law_pick", none)) T.d__law_pick := T.F__law_pick.choose_spec
theorem Txt.b__law_pick (T : Txt K mg) : Binds K T.d__law_pick ["pen", "row"] [] := FunD.bindsN T.fn__law_pick fun _ _ _ _ _ _ us hl => match us, hl with | [_, _], _ => rfl
noncomputable def Txt.d__law_word (T : Txt K mg) : FuncData := T.F__law_word.choose
theorem Txt.fn__law_word (T : Txt K mg) : FunD K "_law_word" "_law_word" (defArgs s__law_word) (defBody s__law_word) (defScope s__law_word) [] [] (He.fAd K ("_law_word", none)) T.d__law_word := T.F__law_word.choose_spec
theorem Txt.b__law_word (T : Txt K mg) : Binds K T.d__law_word ["pen", "most"] [] := FunD.bindsN T.fn__law_word fun _ _ _ _ _ _ us hl => match us, hl with | [_, _], _ => rfl
noncomputable def Txt.d__law_names (T : Txt K mg) : FuncData := T.F__law_names.choose
theorem Txt.fn__law_names (T : Txt K mg) : FunD K "_law_names" "_law_names" (defArgs s__law_names) (defBody s__law_names) (defScope s__law_names) [] [] (He.fAd K ("_law_names", none)) T.d__law_names := T.F__law_names.choose_spec
theorem Txt.b__law_names (T : Txt K mg) : Binds K T.d__law_names ["pen", "many"] [] := FunD.bindsN T.fn__law_names fun _ _ _ _ _ _ us hl => match us, hl with | [_, _], _ => rfl
noncomputable def Txt.d__law_number (T : Txt K mg) : FuncData := T.F__law_number.choose
theorem Txt.fn__law_number (T : Txt K mg) : FunD K "_law_number" "_law_number" (defArgs s__law_number) (defBody s__law_number) (defScope s__law_number) [] [] (He.fAd K ("_law_number", none)) T.d__law_number := T.F__law_number.choose_spec
theorem Txt.b__law_number (T : Txt K mg) : Binds K T.d__law_number ["pen"] [] := FunD.bindsN T.fn__law_number fun _ _ _ _ _ _ us hl => match us, hl with | [_], _ => rfl
noncomputable def Txt.d__law_pairs (T : Txt K mg) : FuncData := T.F__law_pairs.choose
theorem Txt.fn__law_pairs (T : Txt K mg) : FunD K "_law_pairs" "_law_pairs" (defArgs s__law_pairs) (defBody s__law_pairs) (defScope s__law_pairs) [] [] (He.fAd K ("_law_pairs", none)) T.d__law_pairs := T.F__law_pairs.choose_spec
theorem Txt.b__law_pairs (T : Txt K mg) : Binds K T.d__law_pairs ["pen"] [] := FunD.bindsN T.fn__law_pairs fun _ _ _ _ _ _ us hl => match us, hl with | [_], _ => rfl
noncomputable def Txt.d__law_due (T : Txt K mg) : FuncData := T.F__law_due.choose
theorem Txt.fn__law_due (T : Txt K mg) : FunD K "_law_due" "_law_due" (defArgs s__law_due) (defBody s__law_due) (defScope s__law_due) [] [] (He.fAd K ("_law_due", none)) T.d__law_due := T.F__law_due.choose_spec
theorem Txt.b__law_due (T : Txt K mg) : Binds K T.d__law_due ["inputs"] [] := FunD.bindsN T.fn__law_due fun _ _ _ _ _ _ us hl => match us, hl with | [_], _ => rfl
noncomputable def Txt.d__law_told (T : Txt K mg) : FuncData := T.F__law_told.choose
theorem Txt.fn__law_told (T : Txt K mg) : FunD K "_law_told" "_law_told" (defArgs s__law_told) (defBody s__law_told) (defScope s__law_told) [] [] (He.fAd K ("_law_told", none)) T.d__law_told := T.F__law_told.choose_spec
theorem Txt.b__law_told (T : Txt K mg) : Binds K T.d__law_told ["inputs"] [] := FunD.bindsN T.fn__law_told fun _ _ _ _ _ _ us hl => match us, hl with | [_], _ => rfl
noncomputable def Txt.d_law (T : Txt K mg) : FuncData := T.F_law.choose
theorem Txt.fn_law (T : Txt K mg) : FunD K "law" "law" (defArgs s_law) (defBody s_law) (defScope s_law) [] [] (He.fAd K ("law", none)) T.d_law := T.F_law.choose_spec
theorem Txt.b_law (T : Txt K mg) : Binds K T.d_law ["script"] [] := FunD.bindsN T.fn_law fun _ _ _ _ _ _ us hl => match us, hl with | [_], _ => rfl
theorem Txt.ba_law (T : Txt K mg) (s : Shared) (u : Value) : BindsTo s T.d_law ⟨[u], []⟩ [("script", u)] := FunD.bindsA (ps := ["script"]) T.fn_law (fun _ _ _ _ _ _ us hl => match us, hl with | [_], _ => rfl) s [u] rfl
noncomputable def Txt.e_BadCode (T : Txt K mg) : FuncData := T.X_BadCode.choose
theorem Txt.x_BadCode (T : Txt K mg) : ExT K xd_BadCode T.e_BadCode T.X_BadCode.choose_spec.choose T.X_BadCode.choose_spec.choose_spec.choose := T.X_BadCode.choose_spec.choose_spec.choose_spec
theorem Txt.be_BadCode (T : Txt K mg) : Binds K T.e_BadCode ["self", "number"] [] := fun s us _ hl => by
  obtain ⟨oc, od, kV, doc, pm, an, ct, osl, e, _⟩ := T.x_BadCode.fn
  rw [e]
  exact match us, hl with
    | [_, _], _ => .of_eq (by first | rfl | with_unfolding_all rfl | (unfold xd_BadCode; rfl))
theorem oki_BadCode {P : Program} {w : World} {base : Heap} [SupP P] (T : Txt K mg) : FnOk P w K mg base CX0 1 (xd_BadCode.f K) T.e_BadCode ["self", "number"] (spE1 (He.ga K "BadCode") "number") := T.x_BadCode.ok1 rfl (NdefX.nscope_by (by decide +kernel)) rfl rfl (by decide +kernel) ⟨by decide, by decide⟩ (by decide) ⟨⟨_, fun _ => rfl⟩, fun _ => rfl⟩ (fun _ => rfl)
noncomputable def Txt.e_TooGreat (T : Txt K mg) : FuncData := T.X_TooGreat.choose
theorem Txt.x_TooGreat (T : Txt K mg) : ExT K xd_TooGreat T.e_TooGreat T.X_TooGreat.choose_spec.choose T.X_TooGreat.choose_spec.choose_spec.choose := T.X_TooGreat.choose_spec.choose_spec.choose_spec
theorem Txt.be_TooGreat (T : Txt K mg) : Binds K T.e_TooGreat ["self"] [] := fun s us _ hl => by
  obtain ⟨oc, od, kV, doc, pm, an, ct, osl, e, _⟩ := T.x_TooGreat.fn
  rw [e]
  exact match us, hl with
    | [_], _ => .of_eq (by first | rfl | with_unfolding_all rfl | (unfold xd_TooGreat; rfl))
theorem oki_TooGreat {P : Program} {w : World} {base : Heap} [SupP P] (T : Txt K mg) : FnOk P w K mg base CX0 1 (xd_TooGreat.f K) T.e_TooGreat ["self"] (spE0 (He.ga K "TooGreat")) := T.x_TooGreat.ok0 rfl (NdefX.nscope_by (by decide +kernel)) rfl rfl (by decide +kernel) ⟨⟨_, fun _ => rfl⟩, fun _ => rfl⟩
end
def xsD : List ExD := [xd_BadCode, xd_TooGreat]
def dd_is_name : He5.DefA := ⟨fun K => (He.fAd K ("is_name", none)), "is_name", "is_name", defArgs s_is_name, defBody s_is_name, defScope s_is_name, [], []⟩
def dd__copied : He5.DefA := ⟨fun K => (He.fAd K ("_copied", none)), "_copied", "_copied", defArgs s__copied, defBody s__copied, defScope s__copied, [], []⟩
def dd__is_too_long : He5.DefA := ⟨fun K => (He.fAd K ("_is_too_long", none)), "_is_too_long", "_is_too_long", defArgs s__is_too_long, defBody s__is_too_long, defScope s__is_too_long, [], []⟩
def dd__check_input : He5.DefA := ⟨fun K => (He.fAd K ("_check_input", none)), "_check_input", "_check_input", defArgs s__check_input, defBody s__check_input, defScope s__check_input, [], []⟩
def dd__counted_lanes : He5.DefA := ⟨fun K => (He.fAd K ("_counted_lanes", none)), "_counted_lanes", "_counted_lanes", defArgs s__counted_lanes, defBody s__counted_lanes, defScope s__counted_lanes, [], []⟩
def dd_Code___init__ : He5.DefA := ⟨fun K => (He.fAd K ("Code", some "__init__")), "__init__", "Code.__init__", defArgs s_Code___init__, defBody s_Code___init__, defScope s_Code___init__, [], []⟩
def dd__law_draw : He5.DefA := ⟨fun K => (He.fAd K ("_law_draw", none)), "_law_draw", "_law_draw", defArgs s__law_draw, defBody s__law_draw, defScope s__law_draw, [], []⟩
def dd__law_pick : He5.DefA := ⟨fun K => (He.fAd K ("_law_pick", none)), "_law_pick", "_law_pick", defArgs s__law_pick, defBody s__law_pick, defScope s__law_pick, [], []⟩
def dd__law_word : He5.DefA := ⟨fun K => (He.fAd K ("_law_word", none)), "_law_word", "_law_word", defArgs s__law_word, defBody s__law_word, defScope s__law_word, [], []⟩
def dd__law_names : He5.DefA := ⟨fun K => (He.fAd K ("_law_names", none)), "_law_names", "_law_names", defArgs s__law_names, defBody s__law_names, defScope s__law_names, [], []⟩
def dd__law_number : He5.DefA := ⟨fun K => (He.fAd K ("_law_number", none)), "_law_number", "_law_number", defArgs s__law_number, defBody s__law_number, defScope s__law_number, [], []⟩
def dd__law_pairs : He5.DefA := ⟨fun K => (He.fAd K ("_law_pairs", none)), "_law_pairs", "_law_pairs", defArgs s__law_pairs, defBody s__law_pairs, defScope s__law_pairs, [], []⟩
def dd__law_due : He5.DefA := ⟨fun K => (He.fAd K ("_law_due", none)), "_law_due", "_law_due", defArgs s__law_due, defBody s__law_due, defScope s__law_due, [], []⟩
def dd__law_told : He5.DefA := ⟨fun K => (He.fAd K ("_law_told", none)), "_law_told", "_law_told", defArgs s__law_told, defBody s__law_told, defScope s__law_told, [], []⟩
def dd_law : He5.DefA := ⟨fun K => (He.fAd K ("law", none)), "law", "law", defArgs s_law, defBody s_law, defScope s_law, [], []⟩
def fnD : List He5.DefA := [dd_is_name, dd__copied, dd__is_too_long, dd__check_input, dd__counted_lanes, dd_Code___init__, dd__law_draw, dd__law_pick, dd__law_word, dd__law_names, dd__law_number, dd__law_pairs, dd__law_due, dd__law_told, dd_law]
def fa : List He.Fa := [.glo "is_name", .glo "_copied", .glo "_is_too_long", .glo "_check_input", .glo "_counted_lanes", .glo "_law_draw", .glo "_law_pick", .glo "_law_word", .glo "_law_names", .glo "_law_number", .glo "_law_pairs", .glo "_law_due", .glo "_law_told", .glo "law", .glo "BadCode", .glo "LanesError", .glo "TooGreat", .glo "Code", .cls "Code", .mkr "Code", .noat "Code" "_lanes", .noat "Code" "inputs", .noat "Code" "steps", .free "abs", .free "all", .free "any", .free "int", .free "isinstance", .free "len", .free "list", .free "max", .free "range", .free "str", .free "tuple", .int "_MOST_INPUTS" 6, .int "_MOST_LETTERS" 12, .int "_MOST_RANGES" 8, .int "_TOO_LONG" 1000000000000000000000000000000000000000000000000000000000000000000000000000000000000000000000000000000000000000000000000000000000000000000000000000000000000000000000000000000000000000000000000000000000000000000000000000000000000000000000000000000000000000000000000000000000000000000000000000000000000000000000000000000000000000000000000000000000000000000000000000000000000000000000000000000000000000000000000000000000000000000000000000000000000000000000000000000000000000000000000000000000000000000000000000000000000000000000000000000000000000000000000000000000000000000000000000000000000000000000000]
def ex (K : PySem.W.Frag) : Bool := (PySem.W.exmOne K (.ref (He.ga K "BadCode")) (.ref (He.ga K "BadCode")) == some true) && ((PySem.W.exmOne K (.ref (He.ga K "BadCode")) (.ref (He.ga K "TooGreat")) == some false) && ((PySem.W.exmOne K (.ref (He.ga K "TooGreat")) (.ref (He.ga K "BadCode")) == some false) && ((PySem.W.exmOne K (.ref (He.ga K "TooGreat")) (.ref (He.ga K "TooGreat")) == some true) && ((PySem.W.kitOne K (.ref (He.ga K "BadCode")) (.ref (He.ga K "LanesError")) == some true) && ((PySem.W.kitOne K (.ref (He.ga K "BadCode")) (.ref (He.ga K "TooGreat")) == some false) && ((PySem.W.kitOne K (.ref (He.ga K "TooGreat")) (.ref (He.ga K "BadCode")) == some false) && ((PySem.W.kitOne K (.ref (He.ga K "TooGreat")) (.ref (He.ga K "LanesError")) == some true) && (PySem.W.selfFirst K (He.ga K "Code")))))))))
theorem txt_of {K : PySem.W.Frag} {h : Heap} {mg : Str → Option Value} (X : K.In h) (G : h.Ns mainGlobals mg) (cx : SaysX fa fnD xsD ex K) : Txt K mg := by
  have c := cx.b
  have D := c.a
  have x_xm_BadCode_BadCode := (He.ba c.more).1
  have more0 := (He.ba c.more).2
  have x_xm_BadCode_TooGreat := (He.ba more0).1
  have more1 := (He.ba more0).2
  have x_xm_TooGreat_BadCode := (He.ba more1).1
  have more2 := (He.ba more1).2
  have x_xm_TooGreat_TooGreat := (He.ba more2).1
  have more3 := (He.ba more2).2
  have x_kt_BadCode_LanesError := (He.ba more3).1
  have more4 := (He.ba more3).2
  have x_kt_BadCode_TooGreat := (He.ba more4).1
  have more5 := (He.ba more4).2
  have x_kt_TooGreat_BadCode := (He.ba more5).1
  have more6 := (He.ba more5).2
  have x_kt_TooGreat_LanesError := (He.ba more6).1
  have more7 := (He.ba more6).2
  have x_sf_Code := more7
  exact {
    F_is_name := D.def_ 0 (d := dd_is_name) rfl,
    F__copied := D.def_ 1 (d := dd__copied) rfl,
    F__is_too_long := D.def_ 2 (d := dd__is_too_long) rfl,
    F__check_input := D.def_ 3 (d := dd__check_input) rfl,
    F__counted_lanes := D.def_ 4 (d := dd__counted_lanes) rfl,
    F_Code___init__ := D.def_ 5 (d := dd_Code___init__) rfl,
    F__law_draw := D.def_ 6 (d := dd__law_draw) rfl,
    F__law_pick := D.def_ 7 (d := dd__law_pick) rfl,
    F__law_word := D.def_ 8 (d := dd__law_word) rfl,
    F__law_names := D.def_ 9 (d := dd__law_names) rfl,
    F__law_number := D.def_ 10 (d := dd__law_number) rfl,
    F__law_pairs := D.def_ 11 (d := dd__law_pairs) rfl,
    F__law_due := D.def_ 12 (d := dd__law_due) rfl,
    F__law_told := D.def_ 13 (d := dd__law_told) rfl,
    F_law := D.def_ 14 (d := dd_law) rfl,
    m_is_name := He.glo_ok X G (D.fact 0 (f := .glo "is_name") rfl),
    m__copied := He.glo_ok X G (D.fact 1 (f := .glo "_copied") rfl),
    m__is_too_long := He.glo_ok X G (D.fact 2 (f := .glo "_is_too_long") rfl),
    m__check_input := He.glo_ok X G (D.fact 3 (f := .glo "_check_input") rfl),
    m__counted_lanes := He.glo_ok X G (D.fact 4 (f := .glo "_counted_lanes") rfl),
    m__law_draw := He.glo_ok X G (D.fact 5 (f := .glo "_law_draw") rfl),
    m__law_pick := He.glo_ok X G (D.fact 6 (f := .glo "_law_pick") rfl),
    m__law_word := He.glo_ok X G (D.fact 7 (f := .glo "_law_word") rfl),
    m__law_names := He.glo_ok X G (D.fact 8 (f := .glo "_law_names") rfl),
    m__law_number := He.glo_ok X G (D.fact 9 (f := .glo "_law_number") rfl),
    m__law_pairs := He.glo_ok X G (D.fact 10 (f := .glo "_law_pairs") rfl),
    m__law_due := He.glo_ok X G (D.fact 11 (f := .glo "_law_due") rfl),
    m__law_told := He.glo_ok X G (D.fact 12 (f := .glo "_law_told") rfl),
    m_law := He.glo_ok X G (D.fact 13 (f := .glo "law") rfl),
    m_BadCode := He.glo_ok X G (D.fact 14 (f := .glo "BadCode") rfl),
    m_LanesError := He.glo_ok X G (D.fact 15 (f := .glo "LanesError") rfl),
    m_TooGreat := He.glo_ok X G (D.fact 16 (f := .glo "TooGreat") rfl),
    m_Code := He.glo_ok X G (D.fact 17 (f := .glo "Code") rfl),
    cl_Code := He.cls_ok (D.fact 18 (f := .cls "Code") rfl),
    M_Code := He.mkr_ok (D.fact 19 (f := .mkr "Code") rfl),
    n_Code__lanes := He.noat_ok (D.fact 20 (f := .noat "Code" "_lanes") rfl),
    n_Code_inputs := He.noat_ok (D.fact 21 (f := .noat "Code" "inputs") rfl),
    n_Code_steps := He.noat_ok (D.fact 22 (f := .noat "Code" "steps") rfl),
    z_abs := He.free_ok X G (D.fact 23 (f := .free "abs") rfl),
    z_all := He.free_ok X G (D.fact 24 (f := .free "all") rfl),
    z_any := He.free_ok X G (D.fact 25 (f := .free "any") rfl),
    z_int := He.free_ok X G (D.fact 26 (f := .free "int") rfl),
    z_isinstance := He.free_ok X G (D.fact 27 (f := .free "isinstance") rfl),
    z_len := He.free_ok X G (D.fact 28 (f := .free "len") rfl),
    z_list := He.free_ok X G (D.fact 29 (f := .free "list") rfl),
    z_max := He.free_ok X G (D.fact 30 (f := .free "max") rfl),
    z_range := He.free_ok X G (D.fact 31 (f := .free "range") rfl),
    z_str := He.free_ok X G (D.fact 32 (f := .free "str") rfl),
    z_tuple := He.free_ok X G (D.fact 33 (f := .free "tuple") rfl),
    g__MOST_INPUTS := He.int_ok X G (D.fact 34 (f := .int "_MOST_INPUTS" 6) rfl),
    g__MOST_LETTERS := He.int_ok X G (D.fact 35 (f := .int "_MOST_LETTERS" 12) rfl),
    g__MOST_RANGES := He.int_ok X G (D.fact 36 (f := .int "_MOST_RANGES" 8) rfl),
    g__TOO_LONG := He.int_ok X G (D.fact 37 (f := .int "_TOO_LONG" 1000000000000000000000000000000000000000000000000000000000000000000000000000000000000000000000000000000000000000000000000000000000000000000000000000000000000000000000000000000000000000000000000000000000000000000000000000000000000000000000000000000000000000000000000000000000000000000000000000000000000000000000000000000000000000000000000000000000000000000000000000000000000000000000000000000000000000000000000000000000000000000000000000000000000000000000000000000000000000000000000000000000000000000000000000000000000000000000000000000000000000000000000000000000000000000000000000000000000000000000000) rfl),
    xm_BadCode_BadCode := x_xm_BadCode_BadCode,
    xm_BadCode_TooGreat := x_xm_BadCode_TooGreat,
    xm_TooGreat_BadCode := x_xm_TooGreat_BadCode,
    xm_TooGreat_TooGreat := x_xm_TooGreat_TooGreat,
    kt_BadCode_LanesError := x_kt_BadCode_LanesError,
    kt_BadCode_TooGreat := x_kt_BadCode_TooGreat,
    kt_TooGreat_BadCode := x_kt_TooGreat_BadCode,
    kt_TooGreat_LanesError := x_kt_TooGreat_LanesError,
    sf_Code := x_sf_Code,
    X_BadCode := cx.exc 0 (d := xd_BadCode) rfl,
    X_TooGreat := cx.exc 1 (d := xd_TooGreat) rfl }
end Pl

set_option Elab.async false
set_option linter.all false
set_option maxRecDepth 100000
set_option maxHeartbeats 2000000
/-! tuple(zip(xs, ys)) of two lists -/
namespace RZ
open PySem
open PySem.Sem (wp)
open AutoSeq1 (wpAny_loadPart')
section
variable {prog : Program} {w : World} {A : Around} {E : Value → Shared → Prop} {s : Shared} {z TI TO i1 i2 l1 l2 S : Addr} {xs ys : Array Value}
theorem collect_zip {Q : List Value → Shared → Prop} {n : Nat} (hh : A.handled = none) (D : ZipApart z TI TO i1 i2 l1 l2) (hn : n = min xs.size ys.size) (hn2 : n ≤ 100000) (hst : ∀ lo, ZSt s.heap z TI TO i1 i2 l1 l2 xs ys lo 0) (hz : IsZip s.heap z TI TO .none)
    (lt : z < s.heap.objs.size ∧ TI < s.heap.objs.size ∧ TO < s.heap.objs.size ∧ i1 < s.heap.objs.size ∧ i2 < s.heap.objs.size ∧ l1 < s.heap.objs.size ∧ l2 < s.heap.objs.size)
    (hQ : ∀ (h' : Heap) (tk : Nat) (acc : Array Value), (∀ b o, b ≠ z → b ≠ TO → b ≠ i1 → b ≠ i2 → s.heap.get? b = some o → h'.get? b = some o) → s.heap.objs.size < h'.objs.size → acc.size = n → (∀ j v, acc[j]? = some v → ZIt h' xs ys (s.heap.objs.size + 1) j v) →
      Q acc.toList { s with heap := h', toks := tk }) :
    wpAny (model prog w) A (collect (.ref z)) Q E s := by
  obtain ⟨g1, g2, g3, g4, g5, g6, g7⟩ := lt
  unfold collect
  refine wpAny_bind (wpAny_runValue (codeAny_builtin F.entry_proto_collect ?_))
  rw [Around.under_plainId F.plain_proto_collect _]
  show wpAny _ A.in1 (newList [] >>= fun l => again (.builtin "list.__iadd__" ⟨[l, .ref z], []⟩)) _ _ s
  refine wpAny_bind (wpAny_newObj_type ?_)
  refine wpAny_pure ⟨plainId_quiet F.plain_list_iadd _, codeAny_builtin F.entry_list_iadd ?_⟩
  rw [Around.under_plainId F.plain_list_iadd _]
  have old : ∀ b o, s.heap.get? b = some o → (s.heap.push { cls := .type "list", data := .seq ([] : List Value).toArray }).get? b = some o := fun b o e => Heap.get?_push_of_some _ e
  have hS : (s.heap.push { cls := .type "list", data := .seq ([] : List Value).toArray }).get? s.heap.objs.size = some { cls := .type "list", data := .seq #[] 0 } := Heap.get?_push_size _ rfl
  have sz : (s.heap.push { cls := .type "list", data := .seq ([] : List Value).toArray }).objs.size = s.heap.objs.size + 1 := Heap.size_push ..
  have Z := hst (s.heap.objs.size + 1)
  have up : ∀ {a : Addr}, a < s.heap.objs.size → a < s.heap.objs.size + 1 := fun h => Nat.lt_succ_of_lt h
  have X := extend_zip (prog := prog) (w := w) (A := A) (R := fun (r : Result) s' => ∃ h' tk acc c', r = .ok (.ret (.ref s.heap.objs.size)) ∧ s' = { s with heap := h', toks := tk } ∧ (∀ b o, b ≠ z → b ≠ TO → b ≠ i1 → b ≠ i2 → s.heap.get? b = some o → h'.get? b = some o) ∧ h'.get? s.heap.objs.size = some { cls := .type "list", dict := none, data := .seq acc c', slots := #[] } ∧ acc.size = n ∧ ∀ j v, acc[j]? = some v → ZIt h' xs ys (s.heap.objs.size + 1) j v)
    (s := { s with heap := s.heap.push { cls := .type "list", data := .seq ([] : List Value).toArray } }) (res := .ref s.heap.objs.size)
    (lo := s.heap.objs.size + 1) 0 hh D hn hn2 ⟨up g1, up g2, up g3, up g4, up g5⟩ (Nat.lt_succ_self _) ⟨Nat.ne_of_gt g1, Nat.ne_of_gt g2, Nat.ne_of_gt g3, Nat.ne_of_gt g4, Nat.ne_of_gt g5, Nat.ne_of_gt g6, Nat.ne_of_gt g7⟩ (by show _ ≤ (s.heap.push _).objs.size; rw [sz]; exact Nat.le_refl _) ?_ (old _ _ hz) hS fun h' tk acc' c' hk e1 e2 e3 => ?_
  · refine wpAny_mono X (fun fin s' h => ?_) fun e s' h => ?_
    · have fin' : ∀ (r : Result) s', (∃ h' tk acc c', r = .ok (.ret (.ref s.heap.objs.size)) ∧ s' = { s with heap := h', toks := tk } ∧ (∀ b o, b ≠ z → b ≠ TO → b ≠ i1 → b ≠ i2 → s.heap.get? b = some o → h'.get? b = some o) ∧ h'.get? s.heap.objs.size = some { cls := .type "list", dict := none, data := .seq acc c', slots := #[] } ∧ acc.size = n ∧ ∀ j v, acc[j]? = some v → ZIt h' xs ys (s.heap.objs.size + 1) j v) → r = .ok (.ret (.ref s.heap.objs.size)) ∧ wpAny (model prog w) A (match Value.ref s.heap.objs.size with
          | Value.ref a => do
            match (← load a).data with
              | Data.seq xs _ => pure xs.toList
              | _ => unsupported "internal:collect"
          | _ => unsupported "internal:collect") Q E s' := by
        rintro r s' ⟨h', tk, acc, c', rfl, rfl, hk, e1, e2, e3⟩
        refine ⟨rfl, ?_⟩
        show wpAny (model prog w) A (load s.heap.objs.size >>= _) _ _ _
        refine wpAny_bind (wpAny_load e1 ?_)
        exact wpAny_pure (hQ h' tk acc hk (Heap.lt_size e1) e2 e3)
      cases fin with
      | done f =>
        obtain ⟨e, q⟩ := fin' _ _ h
        cases e
        exact q
      | again c' =>
        exact ⟨h.1, codeAny_mono h.2 fun r s'' hr => by obtain ⟨rfl, q⟩ := fin' _ _ hr; exact q⟩
    · obtain ⟨_, _, _, _, z, _⟩ := h
      cases z
  · refine ⟨old _ _ Z.pi, ?_, ?_, ?_, ?_, .inl ⟨old _ _ hz, ?_⟩⟩
    · exact Z.a1.at fun o q => old _ _ q
    · exact Z.a2.at fun o q => old _ _ q
    · obtain ⟨o, q, r⟩ := Z.b1
      exact ⟨o, old _ _ q, r⟩
    · obtain ⟨o, q, r⟩ := Z.b2
      exact ⟨o, old _ _ q, r⟩
    · rcases Z.zz with ⟨_, a, b, r⟩ | ⟨T, f, oT, q, r, l⟩
      · exact ⟨a, b, old _ _ r⟩
      · have e := (show s.heap.get? z = _ from hz).symm.trans q
        simp [rawInt] at e
  · exact ⟨h', tk, acc', c', rfl, rfl, fun b o c1 c2 c3 c4 q => hk b o (Nat.ne_of_lt (Heap.lt_size q)) c1 c2 c3 c4 (old b o q), e1, e2, e3⟩
theorem new_tuple_zip {Q₁ : Value → Shared → Prop} {n : Nat} (hh : A.handled = none) (D : ZipApart z TI TO i1 i2 l1 l2) (hn : n = min xs.size ys.size) (hn2 : n ≤ 100000) (hst : ∀ lo, ZSt s.heap z TI TO i1 i2 l1 l2 xs ys lo 0) (hz : IsZip s.heap z TI TO .none)
    (lt : z < s.heap.objs.size ∧ TI < s.heap.objs.size ∧ TO < s.heap.objs.size ∧ i1 < s.heap.objs.size ∧ i2 < s.heap.objs.size ∧ l1 < s.heap.objs.size ∧ l2 < s.heap.objs.size)
    (h : ∀ (h' : Heap) (tk : Nat) (acc : Array Value), (∀ b o, b ≠ z → b ≠ TO → b ≠ i1 → b ≠ i2 → s.heap.get? b = some o → h'.get? b = some o) → s.heap.objs.size < h'.objs.size → acc.size = n → (∀ j v, acc[j]? = some v → ZIt h' xs ys (s.heap.objs.size + 1) j v) →
      Q₁ (.ref h'.objs.size) { s with heap := h'.push { cls := .type "tuple", data := .seq acc }, toks := tk }) :
    codeAny (model prog w) A (.call (.builtin "tuple.__new__") ⟨[.type "tuple", .ref z], []⟩) (wants Q₁ E) s := by
  refine codeAny_of_tree ?_
  show wpAny _ A.in1 (do checkBuiltinCall "tuple.__new__" ⟨[.type "tuple", .ref z], []⟩; again (.builtin "tuple.__new__" ⟨[.type "tuple", .ref z], []⟩)) _ _ s
  refine wpAny_bind (wpAny_of_eq (F.newCall_tuple_1 _) (wpAny_pure ⟨plainId_quiet F.plain_tuple_new _, codeAny_builtin F.entry_tuple_new ?_⟩))
  rw [Around.under_plainId F.plain_tuple_new _]
  have hsub := sub_tuple_self
  have hinit := init_tuple_lookup
  have hmh := madeHere_tuple
  have hTI : s.TypeIs (.ref z) "zip" := ⟨_, hz, rfl⟩
  wp_walk using wpAny_typeOf hTI, collect_zip (A := A.in1) hh D hn hn2 hst hz lt

  intro h' tk acc hk hs e2 e3
  show wpAny _ _ (Builtin.Tuple.tupleExact acc.toList.toArray >>= fun v => ret v) _ _ _
  unfold Builtin.Tuple.tupleExact
  refine wpAny_bind (wpAny_newObj_type ?_ (by show acc.toList.toArray.size ≤ sizeLine; simp only [Array.toArray_toList]; rw [e2]; have := Pl.small (show n ≤ 1000000 by omega); omega))
  refine wpAny_pure ?_
  have e : acc.toList.toArray = acc := by simp
  rw [e]
  exact h h' tk acc hk hs e2 e3
theorem call_tuple_zip {Q : Value → Shared → Prop} {n : Nat} (hh : A.handled = none) (D : ZipApart z TI TO i1 i2 l1 l2) (hn : n = min xs.size ys.size) (hn2 : n ≤ 100000) (hst : ∀ lo, ZSt s.heap z TI TO i1 i2 l1 l2 xs ys lo 0) (hz : IsZip s.heap z TI TO .none)
    (lt : z < s.heap.objs.size ∧ TI < s.heap.objs.size ∧ TO < s.heap.objs.size ∧ i1 < s.heap.objs.size ∧ i2 < s.heap.objs.size ∧ l1 < s.heap.objs.size ∧ l2 < s.heap.objs.size)
    (hQ : ∀ (h' : Heap) (tk : Nat) (acc : Array Value), (∀ b o, b ≠ z → b ≠ TO → b ≠ i1 → b ≠ i2 → s.heap.get? b = some o → h'.get? b = some o) → s.heap.objs.size < h'.objs.size → acc.size = n → (∀ j v, acc[j]? = some v → ZIt h' xs ys (s.heap.objs.size + 1) j v) →
      Q (.ref h'.objs.size) { s with heap := h'.push { cls := .type "tuple", data := .seq acc }, toks := tk }) :
    wpAny (model prog w) A (call (.type "tuple") [.ref z]) Q E s := by
  refine callType_codes (Q₁ := fun obj s₁ => s₁.TypeIs obj "tuple" ∧ Q obj s₁) F.called_tuple (F.typeCall_tuple_1 _) F.entry_object_init
    (new_tuple_zip (A := A.in1) hh D hn hn2 hst hz lt fun h' tk acc hk hs e2 e3 => ⟨⟨_, Heap.get?_push_size _ rfl, rfl⟩, hQ h' tk acc hk hs e2 e3⟩) fun obj s₁ h₁ => ?_
  exact ⟨h₁.1, F.args_object_init_2 obj _, object_init_meets F.called_tuple.init.lookup F.called_tuple.made (by decide) prog w A.in1 _ s₁ ⟨h₁.1, rfl, h₁.2⟩⟩
end
end RZ
namespace Pl
open PySem PySem.Spec PyProof.Rows L2 RZ
def tTupZip (K : PySem.W.Frag) (ta : TA) : TE := fun σ H Q => ta σ H fun vs H1 => ∃ a b xs ys, vs = [.ref a, .ref b] ∧ SqL K H1 a xs ∧ SqL K H1 b ys ∧ min xs.length ys.length ≤ 100000 ∧
  ∀ H' S ts, Same H1 H' → H1 S = none → SqT K H' S (ts.map V.ref) → List.length ts = min xs.length ys.length → (∀ (i : Nat) (T : Addr), ts[i]? = some T → ∃ x y, xs[i]? = some x ∧ ys[i]? = some y ∧ SqT K H' T [x, y]) → Q (.ref S) H'
theorem pe_tupZip {X : Cx} {K : PySem.W.Frag} {e e2 : Expr} {ta : TA} {p1 pos1 p2 pos2 : Pos} (hc : X.calm = true) (hg1 : Gl X "tuple") (hm1 : X.mg "tuple" = none) (hg2 : Gl X "zip") (hm2 : X.mg "zip" = none) (ha : PA X [e, e2] ta) (hK : X.K = K := by rfl)
    (na : starEach [.Call (.Name "zip" p2) [e, e2] [] pos2] X.env = (false, eval (.Call (.Name "zip" p2) [e, e2] [] pos2) X.env) :: starEach [] X.env := by rfl)
    (hs : starEach [e, e2] X.env = (false, eval e X.env) :: starEach [e2] X.env := by rfl) (hpl : (backTo pos2 (starEach [e2] X.env)).any (·.1) = false := by rfl) :
    PE X (.Call (.Name "tuple" p1) [.Call (.Name "zip" p2) [e, e2] [] pos2] [] pos1) (tTupZip K ta) := by
  subst hK
  refine ⟨fun pins s σ H Q I h => ?_⟩
  refine Call_ (ld_blt I hg1 hm1 PyProof.Rows.boot_tuple (PyProof.Rows.callWith_type1 (args_cons ?_ na) na))
  refine Call_ (ld_blt I hg2 hm2 PyProof.Rows.boot_zip (PyProof.Rows.callWith_type1 (thn (ha.run pos2 pins s σ H _ I h) fun us s1 ⟨vs, H1, I1, r1, q1⟩ => ?_) hs hpl))
  obtain ⟨a, b, xs, ys, rfl, hx, hy, hl, q⟩ := q1
  obtain ⟨its, rv, p1', _⟩ := I1.list hx
  obtain ⟨jts, rw', p2', _⟩ := I1.list hy
  rcases r1 with _ | ⟨⟨⟩, _ | ⟨⟨⟩, ⟨⟩⟩⟩
  have la : a < s1.heap.objs.size := p1'.lt
  have lb : b < s1.heap.objs.size := p2'.lt
  have n1 := rv.length
  have n2 := rw'.length
  refine call_zip_2 p1'.isList p2'.isList fun h' hz hTI hTO o1 o2 hsz hk => args_nil ?_
  have ad : ∀ {c k : Nat}, c < s1.heap.objs.size → c ≠ s1.heap.objs.size + k := fun h => Nat.ne_of_lt (Nat.lt_of_lt_of_le h (Nat.le_add_right _ _))
  have D : ZipApart (s1.heap.objs.size + 4) (s1.heap.objs.size + 2) (s1.heap.objs.size + 3) s1.heap.objs.size (s1.heap.objs.size + 1) a b := by
    constructor
    all_goals first
      | exact ad la
      | exact ad lb
      | exact ad (k := 0) la
      | exact ad (k := 0) lb
      | (intro z; exact absurd (show (_ : Nat) = _ from z) (by omega))
  have lh : s1.heap.objs.size < h'.objs.size ∧ s1.heap.objs.size + 1 < h'.objs.size ∧ s1.heap.objs.size + 2 < h'.objs.size ∧ s1.heap.objs.size + 3 < h'.objs.size ∧ s1.heap.objs.size + 4 < h'.objs.size := by
    rw [hsz]
    refine ⟨?_, ?_, ?_, ?_, ?_⟩ <;> omega
  obtain ⟨g0, g1, g2, g3, g4⟩ := lh
  refine call_tuple_zip (s := { s1 with heap := h' }) (n := min xs.length ys.length) (xs := its.toArray) (ys := jts.toArray) (I1.ok.hd hc) D (by simp only [List.size_toArray]; omega) hl (fun lo => ⟨hTI, o1, o2, ?_, ?_, .inl ⟨hz, _, _, hTO⟩⟩) hz
    ⟨g4, g2, g3, g0, g1, Nat.lt_trans la g0, Nat.lt_trans lb g0⟩ fun h3 tk acc hk2 hs3 e2 e3 => ?_
  · obtain ⟨o, q, r⟩ := p1'.isList
    exact ⟨o, hk _ _ q, r⟩
  · obtain ⟨o, q, r⟩ := p2'.isList
    exact ⟨o, hk _ _ q, r⟩
  have s13 : s1.heap.objs.size < h3.objs.size := Nat.lt_trans g0 hs3
  have e1 : (h3.push { cls := .type "tuple", data := .seq acc }).get? h3.objs.size = some { cls := .type "tuple", data := .seq acc } := Heap.get?_push_size _ rfl
  have pu : ∀ b o, h3.get? b = some o → (h3.push { cls := .type "tuple", data := .seq acc }).get? b = some o := fun b o q => Heap.get?_push_of_some _ q
  have KK : ∀ b o, s1.heap.get? b = some o → (h3.push { cls := .type "tuple", data := .seq acc }).get? b = some o := fun b o q => by
    have lt := Heap.lt_size q
    exact pu b o (hk2 b o (ad lt) (ad lt) (ad (k := 0) lt) (ad lt) (hk b o q))
  obtain ⟨ts, hts⟩ : ∃ ts : List Addr, ts = acc.toList.map refOf := ⟨_, rfl⟩
  have itm : ∀ (j : Nat) (T : Addr), ts[j]? = some T → acc[j]? = some (.ref T) ∧ ∃ (x y : V) (u v : Value), xs[j]? = some x ∧ ys[j]? = some y ∧ RelV x u ∧ RelV y v ∧ IsPair (h3.push { cls := .type "tuple", data := .seq acc }) T u v ∧ s1.heap.objs.size < T ∧ T < h3.objs.size := fun j T hj => by
    rw [hts, List.getElem?_map] at hj
    cases hv : acc[j]? with
    | none =>
      rw [Array.getElem?_toList, hv] at hj
      cases hj
    | some v =>
      rw [Array.getElem?_toList, hv] at hj
      obtain ⟨T', u, w', rfl, hp, h3', h4, h5⟩ := e3 j v hv
      cases hj
      have hj2 : j < min xs.length ys.length := by
        rw [← e2]
        exact (Array.getElem?_eq_some_iff.mp hv).1
      have hxj : xs[j]? = some xs[j] := List.getElem?_eq_getElem (by omega)
      have hyj : ys[j]? = some ys[j] := List.getElem?_eq_getElem (by omega)
      obtain ⟨u', hu, ru⟩ := rv.get hxj
      obtain ⟨w2, hw, rw2⟩ := rw'.get hyj
      have q1 : its[j]? = some u := by simpa using h3'
      have q2 : jts[j]? = some w' := by simpa using h4
      rw [hu] at q1
      rw [hw] at q2
      cases q1
      cases q2
      exact ⟨rfl, _, _, _, _, hxj, hyj, ru, rw2, pu _ _ hp, Nat.lt_of_lt_of_le (Nat.lt_trans g0 (Nat.lt_succ_self _)) h5, Heap.lt_size hp⟩
  have hacc : acc.toList = ts.map Value.ref := by
    refine List.ext_getElem? fun j => ?_
    rw [List.getElem?_map]
    cases hj : ts[j]? with
    | none =>
      rw [hts, List.getElem?_map] at hj
      rw [Option.map_eq_none_iff.mp hj]
      rfl
    | some T =>
      rw [Array.getElem?_toList, (itm j T hj).1]
      rfl
  have hlen : ts.length = min xs.length ys.length := by
    rw [hts, List.length_map, Array.length_toList, e2]
  let H' : Hp := fun b => if b < s1.heap.objs.size then H1 b else if b = h3.objs.size then some (.tup (ts.map V.ref)) else open Classical in if hb : ∃ (j : Nat) (x y : V), ts[j]? = some b ∧ xs[j]? = some x ∧ ys[j]? = some y then some (.tup [hb.choose_spec.choose, hb.choose_spec.choose_spec.choose]) else none
  have nS : ¬ h3.objs.size < s1.heap.objs.size := by omega
  have HS : H' h3.objs.size = some (.tup (ts.map V.ref)) := by
    show (if h3.objs.size < s1.heap.objs.size then _ else _) = _
    rw [if_neg nS, if_pos rfl]
  have Hold : ∀ b, b < s1.heap.objs.size → H' b = H1 b := fun b hb => if_pos hb
  have same : Same H1 H' := fun b o q => by rw [Hold b (I1.hok.lt q)]; exact q
  have HT : ∀ (j : Nat) (T : Addr), ts[j]? = some T → ∃ x y, xs[j]? = some x ∧ ys[j]? = some y ∧ H' T = some (.tup [x, y]) := fun j T hj => by
    obtain ⟨_, x, y, u, v, hx, hy, ru, rv, hp, lt, lt2⟩ := itm j T hj
    refine ⟨x, y, hx, hy, ?_⟩
    have hb : ∃ (j : Nat) (x y : V), ts[j]? = some T ∧ xs[j]? = some x ∧ ys[j]? = some y := ⟨j, x, y, hj, hx, hy⟩
    have ne : T ≠ h3.objs.size := Nat.ne_of_lt lt2
    show (if T < s1.heap.objs.size then _ else _) = _
    rw [if_neg (Nat.not_lt.mpr (Nat.le_of_lt lt)), if_neg ne, dif_pos hb]
    obtain ⟨k1, k2, k3⟩ := hb.choose_spec.choose_spec.choose_spec
    obtain ⟨_, x', y', u', v', hx', hy', ru', rv', hp', _⟩ := itm _ _ k1
    have eo := hp.symm.trans hp'
    have eu : u = u' ∧ v = v' := by simpa using eo
    rw [k2] at hx'
    rw [k3] at hy'
    cases hx'
    cases hy'
    obtain ⟨rfl, rfl⟩ := eu
    have e9 : (hb.choose_spec.choose, hb.choose_spec.choose_spec.choose) = (x, y) := Prod.ext (ru'.inj ru) (rv'.inj rv)
    exact congrArg (fun z : V × V => some (HO.tup [z.1, z.2])) e9
  have hok : HOk X.prog X.w H' (h3.push { cls := .type "tuple", data := .seq acc }) := fun b o hb => by
    by_cases lt : b < s1.heap.objs.size
    · rw [Hold b lt] at hb
      exact (I1.hok b o hb).stay (fun c v _ q => KK c v q) (fun c q => same _ _ q) fun c zs q => same _ _ q
    · by_cases eS : b = h3.objs.size
      · rw [eS, HS] at hb
        cases hb
        rw [eS]
        refine ⟨by rw [List.length_map, hlen]; exact Nat.le_of_lt (len_big (Nat.le_trans hl (by decide))), acc.toList, ?_, ?_⟩
        · rw [hacc]
          have : ∀ l : List Addr, Vals (l.map V.ref) (l.map Value.ref) := fun l => by
            induction l with
            | nil => exact .nil
            | cons a l ih => exact .cons rfl ih
          exact this ts
        · exact ⟨_, by simpa using e1, rfl, _, rfl⟩
      · have hb2 : (open Classical in if hb : ∃ (j : Nat) (x y : V), ts[j]? = some b ∧ xs[j]? = some x ∧ ys[j]? = some y then some (HO.tup [hb.choose_spec.choose, hb.choose_spec.choose_spec.choose]) else none) = some o := by
          have h0 : H' b = some o := hb
          have h1 : (if b < s1.heap.objs.size then H1 b else if b = h3.objs.size then some (.tup (ts.map V.ref)) else open Classical in if hb : ∃ (j : Nat) (x y : V), ts[j]? = some b ∧ xs[j]? = some x ∧ ys[j]? = some y then some (.tup [hb.choose_spec.choose, hb.choose_spec.choose_spec.choose]) else none) = some o := h0
          rw [if_neg lt, if_neg eS] at h1
          exact h1
        by_cases hx : ∃ (j : Nat) (x y : V), ts[j]? = some b ∧ xs[j]? = some x ∧ ys[j]? = some y
        · rw [dif_pos hx] at hb2
          obtain ⟨j, x, y, k1, k2, k3⟩ := hx
          obtain ⟨x2, y2, q2, q3, q4⟩ := HT j b k1
          rw [show H' b = some o from hb] at q4
          cases q4
          obtain ⟨_, x3, y3, u, v, hx3, hy3, ru, rv, hp, _⟩ := itm j b k1
          rw [q2] at hx3
          rw [q3] at hy3
          cases hx3
          cases hy3
          exact ⟨by show 2 ≤ sizeLine; decide, [u, v], .cons ru (.cons rv .nil), ⟨_, hp, rfl, _, rfl⟩⟩
        · rw [dif_neg hx] at hb2
          cases hb2
  have un : Un X.fs [] H1 H' s1.heap (h3.push { cls := .type "tuple", data := .seq acc }) := by
    refine ⟨fun b o q _ _ _ => KK b o q, fun b o q _ _ _ => ⟨o.slots, KK b o q⟩, fun b o q n _ => by rw [Hold b (Heap.lt_size q)]; exact n, fun b o q _ => ⟨o, KK b o q⟩, fun b zs q => same _ _ q, fun b o u q => same _ _ q, fun b ps q => ⟨#[], by rw [same _ _ q]; simp⟩⟩
  exact ⟨.ref h3.objs.size, H', I1.un un hok, rfl, q H' h3.objs.size ts same (I1.hok.fresh (Nat.not_lt.mp nS)) (SqT.of HS) hlen fun i T hi => by
    obtain ⟨x, y, a, b, c⟩ := HT i T hi
    exact ⟨x, y, a, b, SqT.of c⟩⟩
end Pl

set_option Elab.async false
set_option linter.all false
set_option maxRecDepth 100000
set_option maxHeartbeats 2000000
namespace Pl
open PySem PySem.Spec PyProof.Rows L2 RZ
/-! ### x == y of an instance with an own __eq__: y such an instance, or an int -/
def rOwnEqI (K : PySem.W.Frag) (C : Addr) (sp : Sp) (E : XK) : R2 := fun x y H Q => ∃ a dx fs, x = .ref a ∧ H a = some (.ins C dx fs) ∧ ((∃ b dy gs, y = .ref b ∧ H b = some (.ins C dy gs)) ∨ ∃ i : Int, y = .int i) ∧ sp [x, y] H Q E
theorem op_ownEqI {X : Cx} {CX : CXT} {K : PySem.W.Frag} {C f : Addr} {fd : FuncData} {ps : List Str} {sp : Sp} {E : XK} {k : Nat} (hm : Meth X.K C "__eq__" f) (ht : (PySem.W.subIn X.K (.type "int") (.ref C) == some false) = true)
    (F : FnOk X.prog X.w X.K X.mg X.base CX k f fd ps sp) (hr : Room k X.A) (hb : Binds X.K fd ps []) (hx : Passes CX X E) (hK : X.K = K := by rfl) : OpR X (compareOp .Eq) (rOwnEqI K C sp E) := by
  subst hK
  have ht := eq_of_beq ht
  intro pins s σ H x' y v u Q I rx ry h
  obtain ⟨a, dx, fs, rfl, ha, hb', hsp⟩ := h
  cases rx
  obtain ⟨mA, J, _⟩ := ins_get I.hok ha
  obtain ⟨od, J, _⟩ := J.look
  obtain ⟨m, hF⟩ := I.fr
  rcases hb' with ⟨b, dy, gs, rfl, hb'⟩ | ⟨i, rfl⟩
  · cases ry
    have run := wpAny_mono (run_fn (us := [.ref a, .ref b]) (vs := [.ref a, .ref b]) F hr hb .nil hx I (.cons rfl (.cons rfl .nil)) hsp) (fun v s' q => cmpBack_of q) fun _ _ z => z
    obtain ⟨mB, J', _⟩ := ins_get I.hok hb'
    obtain ⟨od', J', _⟩ := J'.look
    exact PySem.W.cmp_K (op := .Eq) (tb := .ref C) hr.units0 hF I.ok.mod.kin J J'.type (by simp [PySem.W.notFirst]) hm.at_ hm.fn run
  · obtain ⟨t, rfl⟩ := ry
    have run := wpAny_mono (run_fn (us := [.ref a, .int i t]) (vs := [.ref a, .int i]) F hr hb .nil hx I (.cons rfl (.cons ⟨t, rfl⟩ .nil)) hsp) (fun v s' q => cmpBack_of q) fun _ _ z => z
    exact PySem.W.cmp_K (op := .Eq) (tb := .type "int") hr.units0 hF I.ok.mod.kin J (fun A Q E s' kp q => by
      rw [show typeOf (.int i t) = pure (.type "int") from rfl]
      exact wpAny_pure q) (by simp [PySem.W.notFirst, ht]) hm.at_ hm.fn run
theorem op_fdivP {X : Cx} : OpR X (binaryOp .FloorDiv) (rI CDivP fun i j => .int (i.fdiv j)) := opI fun _ _ _ _ _ _ _ hc q => floordiv_int (Int.ne_of_gt hc.1) q (.inl hc.2)
theorem noPylong_short {x y : Int} (h : x.natAbs < 2 ^ 200) : Builtin.divisionGoesByPylong x y = false := by
  have key : (if x == 0 then 0 else x.natAbs.log2 / 30 + 1) ≤ 7 := by
    by_cases hx : (x == 0) = true
    · rw [if_pos hx]; exact Nat.zero_le _
    · rw [if_neg hx]
      have h0 : x.natAbs ≠ 0 := fun z => hx (beq_iff_eq.mpr (Int.natAbs_eq_zero.mp z))
      have := (Nat.log2_lt h0).mpr h
      omega
  show (decide ((if y == 0 then 0 else y.natAbs.log2 / 30 + 1) > 300) && decide ((if x == 0 then 0 else x.natAbs.log2 / 30 + 1) > (if y == 0 then 0 else y.natAbs.log2 / 30 + 1) + 150)) = false
  generalize (if y == 0 then 0 else y.natAbs.log2 / 30 + 1) = d
  have h2 : decide ((if x == 0 then 0 else x.natAbs.log2 / 30 + 1) > d + 150) = false := decide_eq_false (by omega)
  rw [h2, Bool.and_false]
end Pl

set_option Elab.async false
set_option linter.all false
set_option maxRecDepth 100000
set_option maxHeartbeats 2000000
/-! more steps of readings -/
namespace Pl
open PySem PySem.Spec PyProof.Rows L2 RZ PySem.Calls
section
variable {σ : L2.St} {H : Hp} {Q : VK} {D : Ends}
theorem k_ex1 {C : Addr} {f : Str} {te : TE} {E : XK} (q : te σ H fun v H1 => ∀ d H', Same H1 H' → H1 d = none → H' d = some (.xd [(f, v)]) → E (.ref C) (some d) H') : tEx1 C f te σ H E := q
theorem k_bits {te : TE} (q : te σ H fun x H1 => ∃ i, x = .int i ∧ Q (.int (Builtin.Int.intBits i : Nat)) H1) : tBits te σ H Q := q
theorem k_ex0 {C : Addr} {E : XK} (q : ∀ H', Same H H' → E (.ref C) none H') : tEx0 C σ H E := q
theorem k_iteB {c : Prop} [Decidable c] {A B : Prop} (h1 : c → A) (h2 : ¬ c → B) : if decide c = true then A else B := iteB h1 h2
theorem k_iteN {c : Prop} [Decidable c] {A B : Prop} (h1 : ¬ c → A) (h2 : c → B) : if (!decide c) = true then A else B := by
  by_cases h : c
  · rw [decide_eq_true h]
    exact iteF (h2 h)
  · rw [decide_eq_false h]
    exact iteT (h1 h)
theorem vint {i j : Int} (h : V.int i = V.int j) : i = j := V.int.inj h
theorem k_iteI {i j : Int} {A B : Prop} (h1 : i = j → A) (h2 : i ≠ j → B) : if decide (V.int i = V.int j) = true then A else B := iteB (fun h => h1 (vint h)) fun h => h2 fun z => h (by rw [z])
theorem k_iteIN {i j : Int} {A B : Prop} (h1 : i ≠ j → A) (h2 : i = j → B) : if (!decide (V.int i = V.int j)) = true then A else B := k_iteN (fun h => h1 fun z => h (by rw [z])) fun h => h2 (vint h)
theorem sq_ofL {K : PySem.W.Frag} {H : Hp} {a : Addr} {xs : List V} (h : H a = some (.lst xs)) : Sq K H a xs := .inl (SqL.of h)
theorem sq_ofT {K : PySem.W.Frag} {H : Hp} {a : Addr} {xs : List V} (h : SqT K H a xs) : Sq K H a xs := .inr h
theorem sqL_of {K : PySem.W.Frag} {H : Hp} {a : Addr} {xs : List V} (h : H a = some (.lst xs)) : SqL K H a xs := SqL.of h
theorem k_neB {i j : Bool} {Q : VK} (q : Q (.bl (!decide (V.bl i = V.bl j))) H) : rNe (.bl i) (.bl j) H Q := ⟨rfl, q⟩
theorem keep_ints {H H' : Hp} {a : Addr} {ns : List Int} (e : Keep H H') (h : H a = some (.lst (ns.map V.int))) : H' a = some (.lst (ns.map V.int)) := e.lst (noPen_ints ns) h
theorem keep_refs {H H' : Hp} {a : Addr} {ns : List Addr} (e : Keep H H') (h : H a = some (.lst (ns.map V.ref))) : H' a = some (.lst (ns.map V.ref)) := e.lst (noPen_refs ns) h
theorem keep_tr {H H1 H2 : Hp} (b : Keep H1 H2) (a : Keep H H1) : Keep H H2 := a.trans b
theorem keep_trS {H H1 H2 : Hp} (b : Same H1 H2) (a : Keep H H1) : Keep H H2 := a.trans (keep_of b)
theorem k_boolInt {k : Bool} {Q : VK} (q : Q (.int (if k = true then 1 else 0)) H) : (∃ i, [V.bl k] = [V.int i] ∧ Q (V.int i) H) ∨ ∃ c, [V.bl k] = [V.bl c] ∧ Q (V.int (if c = true then 1 else 0)) H := .inr ⟨k, rfl, q⟩
/-- a list's item by a number within -/
theorem k_ixL {K : PySem.W.Frag} {l : Addr} {xs : List Int} {i : Int} {Q : VK} (h : SqL K H l (xs.map V.int)) (h0 : 0 ≤ i) (h1 : i < xs.length) (q : Q (.int (xs.getD i.toNat 0)) H) : rIxL K (.ref l) (.int i) H Q :=
  ⟨_, _, _, _, rfl, rfl, h, at_ints (n := i.toNat) (by omega) (by omega), q⟩
theorem k_ixTi {K : PySem.W.Frag} {l : Addr} {xs : List Int} {i : Int} {Q : VK} (h : SqT K H l (xs.map V.int)) (h0 : 0 ≤ i) (h1 : i < xs.length) (q : Q (.int (xs.getD i.toNat 0)) H) : rIxT K (.ref l) (.int i) H Q :=
  ⟨_, _, _, _, rfl, rfl, h, at_ints (n := i.toNat) (by omega) (by omega), q⟩
/-- len(x) -/
theorem k_len {K : PySem.W.Frag} {l : Addr} {xs : List Int} {Q : VK} (h : Sq K H l (xs.map V.int)) (q : Q (.int (xs.length : Nat)) H) : rLenN K [.ref l] H Q := ⟨l, _, rfl, h, by rw [List.length_map]; exact q⟩
/-- lists and tuples of ints compared -/
theorem k_neL {K : PySem.W.Frag} {a b : Addr} {xs ys : List Int} {Q : VK} (h1 : SqL K H a (xs.map V.int)) (h2 : SqL K H b (ys.map V.int)) (q : Q (.bl (!decide (xs = ys))) H) : rNeD K (.ref a) (.ref b) H Q :=
  ⟨_, _, dp_list h1, dp_list h2, sh_list _, sh_list _, by rw [eqv_list]; exact q⟩
theorem k_eqL {K : PySem.W.Frag} {a b : Addr} {xs ys : List Int} {Q : VK} (h1 : SqL K H a (xs.map V.int)) (h2 : SqL K H b (ys.map V.int)) (q : Q (.bl (decide (xs = ys))) H) : rEqD K (.ref a) (.ref b) H Q :=
  ⟨_, _, dp_list h1, dp_list h2, sh_list _, sh_list _, by rw [eqv_list]; exact q⟩
theorem k_neTi {K : PySem.W.Frag} {a b : Addr} {xs ys : List Int} {Q : VK} (h1 : SqT K H a (xs.map V.int)) (h2 : SqT K H b (ys.map V.int)) (q : Q (.bl (!decide (xs = ys))) H) : rNeD K (.ref a) (.ref b) H Q :=
  ⟨_, _, dp_tup h1, dp_tup h2, sh_tup _, sh_tup _, by rw [eqv_tup]; exact q⟩
theorem k_eqTi {K : PySem.W.Frag} {a b : Addr} {xs ys : List Int} {Q : VK} (h1 : SqT K H a (xs.map V.int)) (h2 : SqT K H b (ys.map V.int)) (q : Q (.bl (decide (xs = ys))) H) : rEqD K (.ref a) (.ref b) H Q :=
  ⟨_, _, dp_tup h1, dp_tup h2, sh_tup _, sh_tup _, by rw [eqv_tup]; exact q⟩
theorem k_ixM {K : PySem.W.Frag} {l : Addr} {i : Int} {Q : VK} (ms : List Int) (h : H l = some (.lst (ms.map V.int))) (h0 : 0 ≤ i) (h1 : i < ms.length) (q : ∀ m, m ∈ ms → Q (.int m) H) : rIxL K (.ref l) (.int i) H Q := by
  obtain ⟨v, av, mv⟩ := at_mem (l := ms.map V.int) h0 (by rw [List.length_map]; exact h1)
  obtain ⟨m, mm, rfl⟩ := List.mem_map.mp mv
  exact ⟨_, _, _, _, rfl, rfl, SqL.of h, av, q m mm⟩
theorem fdivN (a : Int) {b : Int} (h : 0 ≤ b) : a.fdiv b = a / b := Int.fdiv_eq_ediv_of_nonneg a h
theorem fmodN (a : Int) {b : Int} (h : 0 ≤ b) : a.fmod b = a % b := Int.fmod_eq_emod_of_nonneg a h
/-- int(b) -/
theorem k_catL {a b : Addr} {xs ys : List Int} {Q : VK} (h1 : H a = some (.lst (xs.map V.int))) (h2 : H b = some (.lst (ys.map V.int))) (hl : xs.length + ys.length ≤ 1000000) (q : ∀ H' l, Same H H' → H' l = some (.lst ((xs ++ ys).map V.int)) → Q (.ref l) H') : rCatN (.ref a) (.ref b) H Q :=
  ⟨a, b, _, _, rfl, rfl, h1, h2, by rw [List.length_map, List.length_map]; exact small hl, fun H' p s _ e => q H' p s (by rw [e, List.map_append])⟩
/-- behind a comprehension's walk J -/
def LcTail (J : It) (g : TG) (tt : TT) (te : TE) (vs : List Nat) (σ : L2.St) (Q : VK) (H1 : Hp) : Prop := ∀ D H1', H1 D = none → Same H1 H1' → H1' D = some (.lst []) → LcGoal J g tt te vs σ H1' D (Q (.ref D))
theorem k_lcR1 {ta : TA} {g : TG} {tt : TT} {te : TE} {vs : List Nat} (q : ta σ H fun us H1 => ∃ j : Int, us = [.int j] ∧ -(2 ^ 62) ≤ j ∧ j < 2 ^ 62 ∧ LcTail (Itr 0 j.toNat) g tt te vs σ Q H1) : tLcN (iRng1 ta) g tt te vs σ H Q := q
theorem k_lcR2 {ta : TA} {g : TG} {tt : TT} {te : TE} {vs : List Nat} (q : ta σ H fun us H1 => ∃ i j : Int, us = [.int i, .int j] ∧ (-(2 ^ 62) ≤ i ∧ i < 2 ^ 62 ∧ -(2 ^ 62) ≤ j ∧ j < 2 ^ 62) ∧ LcTail (Itr i (j - i).toNat) g tt te vs σ Q H1) : tLcN (iRng2 ta) g tt te vs σ H Q := q
/-- [e for k in range(m)], e a number without a change but new things -/
theorem k_lcInt {te : TE} {vs : List Nat} {i : Nat} {lo : Int} {m : Nat} (f : Nat → Int) (hm : m ≤ 100000)
    (hte : ∀ j H2, j < m → Same H H2 → ∀ Q2 : VK, (∀ H3, Same H2 H3 → Q2 (.int (f j)) H3) → te ((wipe σ vs).set i (some (.int (lo + (j : Nat))))) H2 Q2)
    (q : ∀ H' D, Same H H' → H' D = some (.lst (((List.range m).map f).map V.int)) → Q (.ref D) H') (hw : ∀ x, wipe ((wipe σ vs).set i x) vs = wipe σ vs := by intro _; rfl) : LcTail (Itr lo m) (gName i) tYes te vs σ Q H := by
  intro D H1 hD s1 e1
  refine lcN_range (fun j acc H' => Same H H' ∧ acc = (((List.range m).map f).take j).map V.int) ⟨s1, rfl⟩ ?_ ?_
  · rintro j acc H2 hj ⟨s2, rfl⟩ eD
    have ef : ((List.range m).map f)[j]? = some (f j) := by
      rw [List.getElem?_map, List.getElem?_range hj]
      rfl
    refine ⟨hw _, yesT (hte j H2 hj s2 _ fun H3 s3 => ⟨s3 _ _ eD, ?_, fun H4 b4 e4 => ⟨(s2.trans s3).but hD b4, ?_⟩⟩)⟩
    · rw [List.length_map, List.length_take]
      exact len_big (by rw [List.length_map, List.length_range]; omega)
    · rw [take_snoc ef, List.map_append]
      rfl
  · rintro acc H2 ⟨s2, rfl⟩ eD
    rw [List.take_of_length_le (by rw [List.length_map, List.length_range]; exact Nat.le_refl _)] at eD
    exact q H2 D s2 eD
end
/-! comprehensions over lists, tuples, either -/
section
variable {σ : L2.St} {H : Hp} {Q : VK} {K : PySem.W.Frag} {g : TG} {tt : TT} {te tl : TE} {vs : List Nat}
theorem k_lcL (q : tl σ H fun x H1 => ∃ a, x = .ref a ∧ (∃ xs, SqL K H1 a xs) ∧ LcTail (Itl K a) g tt te vs σ Q H1) : tLcN (iList K tl) g tt te vs σ H Q := q
theorem k_lcT (q : tl σ H fun x H1 => ∃ a, x = .ref a ∧ (∃ xs, SqT K H1 a xs) ∧ LcTail (Itt K a) g tt te vs σ Q H1) : tLcN (iTup K tl) g tt te vs σ H Q := q
theorem k_lcQ (q : tl σ H fun x H1 => ∃ b a xs, x = .ref a ∧ SqB K b H1 a xs ∧ LcTail (ItQ K b a) g tt te vs σ Q H1) : tLcN (iSqB K tl) g tt te vs σ H Q := q
/-- [e(x) for x in xs if ..]: f tells what an item gives -/
theorem k_lcFL {i : Nat} {a : Addr} {xs : List Int} (f : Int → Option Int) (hS : SqL K H a (xs.map V.int)) (hm : xs.length ≤ 100000)
    (htt : ∀ u ∈ xs, ∀ H2, Same H H2 → ∀ QB : Bool → Hp → Prop, (∀ H3, Same H2 H3 → QB (f u).isSome H3) → tt ((wipe σ vs).set i (some (.int u))) H2 QB)
    (hte : ∀ u ∈ xs, ∀ v, f u = some v → ∀ H2, Same H H2 → ∀ Q2 : VK, (∀ H3, Same H2 H3 → Q2 (.int v) H3) → te ((wipe σ vs).set i (some (.int u))) H2 Q2)
    (q : ∀ H' D, Same H H' → H' D = some (.lst ((xs.filterMap f).map V.int)) → Q (.ref D) H') (hw : ∀ x, wipe ((wipe σ vs).set i x) vs = wipe σ vs := by intro _; rfl) : (∃ xs, SqL K H a xs) ∧ LcTail (Itl K a) (gName i) tt te vs σ Q H := by
  refine ⟨⟨_, hS⟩, fun D H1 hD s1 e1 => ?_⟩
  refine lcN_list (xs := xs.map V.int) (fun j acc H' => Same H H' ∧ acc = ((xs.take j).filterMap f).map V.int) ⟨s1, rfl⟩ (fun i acc H' _ z _ => z.1.seq hS) ?_ ?_
  · rintro j x acc H2 hx ⟨s2, rfl⟩ eD
    obtain ⟨u, hu, rfl⟩ := map_get hx
    have mu := List.mem_of_getElem? hu
    refine ⟨hw _, htt u mu H2 s2 _ fun H3 s3 => ?_⟩
    have el : (((xs.take j).filterMap f).map V.int).length < sizeLine := by
      rw [List.length_map]
      refine len_big (Nat.le_trans (List.length_filterMap_le ..) ?_)
      rw [List.length_take]
      omega
    cases e : f u with
    | none =>
      refine iteF ⟨s3 _ _ eD, s2.trans s3, ?_⟩
      rw [take_snoc hu, List.filterMap_append, List.filterMap_cons, e]
      simp
    | some v =>
      refine iteT (hte u mu v e H3 (s2.trans s3) _ fun H4 s4 => ⟨s4 _ _ (s3 _ _ eD), el, fun H5 b5 e5 => ⟨(s2.trans (s3.trans s4)).but hD b5, ?_⟩⟩)
      rw [take_snoc hu, List.filterMap_append, List.filterMap_cons, e, List.map_append]
      rfl
  · rintro acc H2 ⟨s2, rfl⟩ eD
    rw [List.length_map, List.take_of_length_le (Nat.le_refl _)] at eD
    exact q H2 D s2 eD
/-- [e(x) for x in xs if ..]: f tells what an item gives -/
theorem k_lcFT {i : Nat} {a : Addr} {xs : List Int} (f : Int → Option Int) (hS : SqT K H a (xs.map V.int)) (hm : xs.length ≤ 100000)
    (htt : ∀ u ∈ xs, ∀ H2, Same H H2 → ∀ QB : Bool → Hp → Prop, (∀ H3, Same H2 H3 → QB (f u).isSome H3) → tt ((wipe σ vs).set i (some (.int u))) H2 QB)
    (hte : ∀ u ∈ xs, ∀ v, f u = some v → ∀ H2, Same H H2 → ∀ Q2 : VK, (∀ H3, Same H2 H3 → Q2 (.int v) H3) → te ((wipe σ vs).set i (some (.int u))) H2 Q2)
    (q : ∀ H' D, Same H H' → H' D = some (.lst ((xs.filterMap f).map V.int)) → Q (.ref D) H') (hw : ∀ x, wipe ((wipe σ vs).set i x) vs = wipe σ vs := by intro _; rfl) : (∃ xs, SqT K H a xs) ∧ LcTail (Itt K a) (gName i) tt te vs σ Q H := by
  refine ⟨⟨_, hS⟩, fun D H1 hD s1 e1 => ?_⟩
  refine lcN_tup (xs := xs.map V.int) (fun j acc H' => Same H H' ∧ acc = ((xs.take j).filterMap f).map V.int) ⟨s1, rfl⟩ (fun i acc H' _ z _ => z.1.seqT hS) ?_ ?_
  · rintro j x acc H2 hx ⟨s2, rfl⟩ eD
    obtain ⟨u, hu, rfl⟩ := map_get hx
    have mu := List.mem_of_getElem? hu
    refine ⟨hw _, htt u mu H2 s2 _ fun H3 s3 => ?_⟩
    have el : (((xs.take j).filterMap f).map V.int).length < sizeLine := by
      rw [List.length_map]
      refine len_big (Nat.le_trans (List.length_filterMap_le ..) ?_)
      rw [List.length_take]
      omega
    cases e : f u with
    | none =>
      refine iteF ⟨s3 _ _ eD, s2.trans s3, ?_⟩
      rw [take_snoc hu, List.filterMap_append, List.filterMap_cons, e]
      simp
    | some v =>
      refine iteT (hte u mu v e H3 (s2.trans s3) _ fun H4 s4 => ⟨s4 _ _ (s3 _ _ eD), el, fun H5 b5 e5 => ⟨(s2.trans (s3.trans s4)).but hD b5, ?_⟩⟩)
      rw [take_snoc hu, List.filterMap_append, List.filterMap_cons, e, List.map_append]
      rfl
  · rintro acc H2 ⟨s2, rfl⟩ eD
    rw [List.length_map, List.take_of_length_le (Nat.le_refl _)] at eD
    exact q H2 D s2 eD
/-- [e(x) for x in xs if ..]: f tells what an item gives -/
theorem k_lcFQ {i : Nat} {a : Addr} {xs : List Int} (f : Int → Option Int) (hS : Sq K H a (xs.map V.int)) (hm : xs.length ≤ 100000)
    (htt : ∀ u ∈ xs, ∀ H2, Same H H2 → ∀ QB : Bool → Hp → Prop, (∀ H3, Same H2 H3 → QB (f u).isSome H3) → tt ((wipe σ vs).set i (some (.int u))) H2 QB)
    (hte : ∀ u ∈ xs, ∀ v, f u = some v → ∀ H2, Same H H2 → ∀ Q2 : VK, (∀ H3, Same H2 H3 → Q2 (.int v) H3) → te ((wipe σ vs).set i (some (.int u))) H2 Q2)
    (q : ∀ H' D, Same H H' → H' D = some (.lst ((xs.filterMap f).map V.int)) → Q (.ref D) H') (hw : ∀ x, wipe ((wipe σ vs).set i x) vs = wipe σ vs := by intro _; rfl) : ∃ b a' xs, V.ref a = .ref a' ∧ SqB K b H a' xs ∧ LcTail (ItQ K b a') (gName i) tt te vs σ Q H := by
  obtain ⟨b, hb⟩ := Sq.cases hS
  refine ⟨b, a, _, rfl, hb, fun D H1 hD s1 e1 => ?_⟩
  refine lcN_at (K := K) (xs := xs.map V.int) walk_Q (fun j acc H' => Same H H' ∧ acc = ((xs.take j).filterMap f).map V.int) ⟨s1, rfl⟩ (fun i acc H' _ z _ => hb.same z.1) ?_ ?_
  · rintro j x acc H2 hx ⟨s2, rfl⟩ eD
    obtain ⟨u, hu, rfl⟩ := map_get hx
    have mu := List.mem_of_getElem? hu
    refine ⟨hw _, htt u mu H2 s2 _ fun H3 s3 => ?_⟩
    have el : (((xs.take j).filterMap f).map V.int).length < sizeLine := by
      rw [List.length_map]
      refine len_big (Nat.le_trans (List.length_filterMap_le ..) ?_)
      rw [List.length_take]
      omega
    cases e : f u with
    | none =>
      refine iteF ⟨s3 _ _ eD, s2.trans s3, ?_⟩
      rw [take_snoc hu, List.filterMap_append, List.filterMap_cons, e]
      simp
    | some v =>
      refine iteT (hte u mu v e H3 (s2.trans s3) _ fun H4 s4 => ⟨s4 _ _ (s3 _ _ eD), el, fun H5 b5 e5 => ⟨(s2.trans (s3.trans s4)).but hD b5, ?_⟩⟩)
      rw [take_snoc hu, List.filterMap_append, List.filterMap_cons, e, List.map_append]
      rfl
  · rintro acc H2 ⟨s2, rfl⟩ eD
    rw [List.length_map, List.take_of_length_le (Nat.le_refl _)] at eD
    exact q H2 D s2 eD
theorem k_yesB {QB : Bool → Hp → Prop} (q : ∀ H3, Same H H3 → QB true H3) : tYes σ H QB := q H (Same.refl H)
end
theorem fm_map {α β : Type} (f : α → β) (xs : List α) : xs.filterMap (fun u => some (f u)) = xs.map f := by
  induction xs with
  | nil => rfl
  | cons a r ih => rw [List.filterMap_cons, ih]; rfl
section
variable {σ : L2.St} {H : Hp} {Q : VK} {K : PySem.W.Frag}
theorem k_sl {r : V → Option Int → Option Int → Hp → VK → Prop} {te : TE} {tl th : TO} (q : te σ H fun x H1 => tl σ H1 fun l H2 => th σ H2 fun u H3 => r x l u H3 Q) : L2.tSl r te tl th σ H Q := q
theorem k_noPart {Q : Option Int → Hp → Prop} (q : Q none H) : tNoPart σ H Q := q
theorem k_part {t : TE} {Q : Option Int → Hp → Prop} (q : t σ H fun x H1 => ∃ i, x = .int i ∧ Q (some i) H1) : tPart t σ H Q := q
theorem k_prop {C : Addr} {sp : Sp} {dvs : List V} {E : XK} {ta : TE} (q : ta σ H fun x H1 => ∃ a dx fs, x = .ref a ∧ H1 a = some (.ins C dx fs) ∧ sp (.ref a :: dvs) H1 Q E) : tProp C sp dvs E ta σ H Q := q
theorem cut_end1 (xs : List V) : cutV xs (some (-1)) none = xs.drop (xs.length - 1) := by
  unfold cutV
  have e : HT.sIx xs.length 0 (some (-1)) = xs.length - 1 := by
    show (if (-1 : Int) < 0 then ((-1 : Int) + (xs.length : Int)).toNat else min (-1 : Int).toNat xs.length) = _
    rw [if_pos (by decide)]
    omega
  rw [e, HT.sIx_none]
  exact List.take_of_length_le (by rw [List.length_drop]; omega)
theorem k_slT {a : Addr} {xs : List V} {lo hi : Option Int} (h : SqT K H a xs) (q : ∀ H' t, Same H H' → SqT K H' t (cutV xs lo hi) → Q (.ref t) H') : rSlT2 K (.ref a) lo hi H Q := ⟨a, xs, rfl, h, fun H' p s hT => q H' p s hT⟩
theorem k_slL {a : Addr} {xs : List V} {lo hi : Option Int} (h : SqL K H a xs) (q : ∀ H' l, Same H H' → H' l = some (.lst (cutV xs lo hi)) → Q (.ref l) H') : rSlL2 K (.ref a) lo hi H Q := ⟨a, xs, rfl, h, fun H' p s _ e => q H' p s e⟩
/-- xs * n -/
theorem k_repL {l : Addr} {xs : List Int} {k : Int} (h : H l = some (.lst (xs.map V.int))) (h1 : -(2 ^ 63) ≤ k) (h2 : k < 2 ^ 63) (h3 : xs.length * k.toNat ≤ 1000000) (q : ∀ H' p, Same H H' → H' p = some (.lst ((List.replicate k.toNat xs).flatten.map V.int)) → Q (.ref p) H') : rRepN (.ref l) (.int k) H Q := by
  refine ⟨l, k, _, rfl, rfl, h, h1, h2, by rw [List.length_map]; exact small h3, fun H' p s _ e => q H' p s ?_⟩
  rw [e, ← List.map_replicate, ← List.map_flatten]
end
end Pl

set_option Elab.async false
set_option linter.all false
set_option maxRecDepth 100000
set_option maxHeartbeats 2000000
/-! t[lo::k] of a tuple, k written, not 0 and not 1 -/
namespace L2
open PySem PySem.Spec PyProof.Rows RZ HT
/-- the places that t[lo::k] takes -/
def idsT (n : Nat) (lo : Option Int) (k : Int) : List Nat := (List.range (Builtin.Slice.slicePlaces (Builtin.Slice.sliceAdjust lo none k n).1 (Builtin.Slice.sliceAdjust lo none k n).2 k)).map fun (m : Nat) => ((Builtin.Slice.sliceAdjust lo none k n).1 + (m : Int) * k).toNat
def pickT (xs : List V) (lo : Option Int) (k : Int) : List V := (idsT xs.length lo k).filterMap (xs[·]?)
section
variable {prog : Program} {w : World} {A : Around} {E : Value → Shared → Prop} {s : Shared}
theorem sliceApplied_step {sl : Addr} {vl vs : Value} {lo : Option Int} {j : Int} {n : Nat} {Q : Int × Int × Nat → Shared → Prop} (hs : s.heap.IsSliceOf sl vl .none vs) (pl : IsPart vl lo) (ps : IsPart vs (some j)) (hj : j ≠ 0)
    (h : Q ((Builtin.Slice.sliceAdjust lo none j n).1, j, Builtin.Slice.slicePlaces (Builtin.Slice.sliceAdjust lo none j n).1 (Builtin.Slice.sliceAdjust lo none j n).2 j) s) : wpAny (model prog w) A (Builtin.Slice.sliceApplied (.ref sl) (pure (n : Int))) Q E s := by
  obtain ⟨os, hos, hcs, hds⟩ := id hs
  unfold Builtin.Slice.sliceApplied Builtin.Slice.sliceFields
  refine wpAny_bind (wpAny_bind (wpAny_field hos hds (x := vl) rfl (wpAny_bind (wpAny_field hos hds (x := .none) rfl (wpAny_bind (wpAny_field hos hds (x := vs) rfl (wpAny_pure ?_)))))))
  refine wpAny_bind (slicePart_ ps ?_)
  show wpAny _ _ (if (j == 0) = true then _ else _) _ _ s
  rw [if_neg (by simpa using hj)]
  exact wpAny_bind (slicePart_ pl (wpAny_bind (slicePart_none (wpAny_bind (wpAny_pure (wpAny_pure h))))))
theorem getItem_tuple_step {t sl : Addr} {items : Array Value} {vl vs : Value} {lo : Option Int} {j : Int} {Q : Value → Shared → Prop} (ht : IsTup s.heap t items) (hs : s.heap.IsSliceOf sl vl .none vs) (pl : IsPart vl lo) (ps : IsPart vs (some j))
    (hj : j ≠ 0) (hj1 : j ≠ 1)
    (h : Q (.ref s.heap.objs.size) { s with heap := s.heap.push { cls := .type "tuple", data := .seq ((idsT items.size lo j).filterMap (items[·]?)).toArray } })
    (hz : (idsT items.size lo j).length ≤ sizeLine) : wpAny (model prog w) A (getItem (.ref t) (.ref sl)) Q E s := by
  have htake : sizeOk (.seq ((idsT items.size lo j).filterMap (items[·]?)).toArray) := by
    show ((idsT items.size lo j).filterMap (items[·]?)).toArray.size ≤ sizeLine
    rw [List.size_toArray]
    exact Nat.le_trans (List.length_filterMap_le _ _) hz
  obtain ⟨os, hos, hcs, hds⟩ := id hs
  have hTs : s.TypeIs (.ref sl) "slice" := ⟨os, hos, hcs⟩
  unfold getItem
  try with_reducible refine wpAny_holding ?_
  first | refine wpAny_bind (wpAny_pure ?_) | skip
  refine wpAny_bind (wpAny_sequenceKey ht.typeIs (by decide) ?_)
  refine wpAny_bind (wpAny_callSpecial?_slot (name := Str.ofString "__getitem__") ht.typeIs PyProof.Rows.slot_tuple_getitem
    (wpAny_call_entry PyProof.Rows.slot_tuple_getitem ht.typeIs entry_tuple_getitem ?_ (args_tuple_getitem _ _)))
  show wpAny _ _ (Builtin.Tuple.tupleItemsOf (.ref t) >>= _) _ _ s
  refine wpAny_bind (tupleItemsOf_ ht ?_)
  refine wpAny_bind (wpAny_typeOf hTs ?_)
  rw [if_pos (by decide)]
  refine wpAny_bind (sliceApplied_step hs pl ps hj ?_)
  have e : ((idsT items.size lo j).filterMap (items[·]?)).toArray = ((List.range (Builtin.Slice.slicePlaces (Builtin.Slice.sliceAdjust lo none j items.size).1 (Builtin.Slice.sliceAdjust lo none j items.size).2 j)).filterMap fun (k : Nat) => items[((Builtin.Slice.sliceAdjust lo none j items.size).1 + (k : Int) * j).toNat]?).toArray := by
    unfold idsT
    rw [List.filterMap_map]
    rfl
  rw [e] at h htake
  generalize Builtin.Slice.slicePlaces (Builtin.Slice.sliceAdjust lo none j items.size).1 (Builtin.Slice.sliceAdjust lo none j items.size).2 j = c at h htake ⊢
  generalize (Builtin.Slice.sliceAdjust lo none j items.size).1 = a at h htake ⊢
  have hno : ¬ ((a == 0 && j == 1 && c == items.size) = true) := by
    intro q
    rw [Bool.and_eq_true, Bool.and_eq_true] at q
    exact hj1 (eq_of_beq q.1.2)
  show wpAny _ _ (if (a == 0 && j == 1 && c == items.size) = true then _ else _) _ _ s
  rw [if_neg hno]
  first
    | exact wpAny_bind (m := Builtin.Tuple.tupleExact _) (wpAny_newObj_type (wpAny_pure ⟨_, rfl, wpAny_pure h⟩) htake)
    | exact wpAny_bind (m := Builtin.Tuple.tupleExact _) (wpAny_newObj_type (wpAny_bind (wpAny_pure (wpAny_pure ⟨_, rfl, wpAny_pure h⟩))) htake)
    | exact wpAny_bind (wpAny_bind (m := Builtin.Tuple.tupleExact _) (wpAny_newObj_type (wpAny_pure (wpAny_pure ⟨_, rfl, wpAny_pure h⟩)) htake))
    | exact wpAny_bind (wpAny_bind (m := Builtin.Tuple.tupleExact _) (wpAny_newObj_type (wpAny_pure ⟨_, rfl, wpAny_pure h⟩) htake))
end
section
variable {X : Cx} {K : PySem.W.Frag}
def tSlStepT (K : PySem.W.Frag) (te : TE) (tl : TO) (k : Int) : TE := fun σ H Q => te σ H fun x H1 => tl σ H1 fun lo H2 => ∃ a xs, x = .ref a ∧ SqT K H2 a xs ∧ (idsT xs.length lo k).length ≤ sizeLine ∧ NewT K (pickT xs lo k) H2 Q
theorem pe_slStepTE {e es : Expr} {lo : Option Expr} {te ts : TE} {tl : TO} {j : Int} {p3 pos : Pos} (he : PE X e te) (hl : PO X lo tl) (hs : PE X es ts) (hts : ∀ σ H Q, Q (V.int j) H → ts σ H Q) (hj : j ≠ 0) (hj1 : j ≠ 1) (hK : X.K = K := by rfl) :
    PE X (.Subscript e (.Slice lo none (some es) p3) pos) (tSlStepT K te tl j) := by
  subst hK
  refine ⟨fun pins s σ H Q I h => ?_⟩
  refine Subscript_ (thn (he.run pins s σ H _ I h) fun v s1 ⟨x, H1, I1, r1, q1⟩ => ?_)
  have hst : PO X (some es) (tPart ts) := po_some hs
  refine wpAny_Slice (thn (hl.run pins s1 σ H1 _ I1 q1) fun vl s2 ⟨l, H2, I2, pl, q2⟩ => ?_)
  obtain ⟨a, xs, ex, hx, hz, q⟩ := q2
  subst ex
  cases r1
  refine thn (po_none.run pins s2 σ H2 (fun o H3 => o = none ∧ H3 = H2) I2 ⟨rfl, rfl⟩) fun vu s3 ⟨u, H3, I3, pu, eu, e3⟩ => ?_
  subst eu e3
  refine thn (hst.run pins s3 σ H3 (fun o H4 => o = some j ∧ H4 = H3) I3 (hts _ _ _ ⟨j, rfl, rfl, rfl⟩)) fun vs s4 ⟨o, H4, I4, ps, eo, e4⟩ => ?_
  subst eo e4
  cases pu
  have I5 : Inv X pins σ H4 { s4 with heap := s4.heap.push { cls := .type "slice", data := .fields #[vl, .none, vs] } } := I4.kept (t' := s4.toks) fun b ob q => Heap.get?_push_of_some _ q
  obtain ⟨its, r, ht, _⟩ := I5.tuple hx
  have hlen : its.toArray.size = xs.length := by rw [List.size_toArray]; exact r.length.symm
  show wpAny (model X.prog X.w) X.A (subscriptTail e (.Slice lo none (some es) p3) (.ref a) (.ref s4.heap.objs.size)) (EP X pins σ Q) X.xe { s4 with heap := s4.heap.push { cls := .type "slice", data := .fields #[vl, .none, vs] } }
  refine tail_any (ops := [.ref a, .ref s4.heap.objs.size]) ht.typeIs (PyProof.Rows.slot_tuple_getitem.lookup) ?_ (by with_unfolding_all rfl)
  refine getItem_tuple_step ht (Heap.IsSliceOf.new _ vl .none vs) pl ps hj hj1 ?_ (by rw [hlen]; exact hz)
  have ea : (idsT its.toArray.size l j).filterMap (fun x => its.toArray[x]?) = (idsT xs.length l j).filterMap (its[·]?) := by
    rw [hlen]
    simp
  show EP X pins σ Q _ { s4 with heap := (s4.heap.push { cls := .type "slice", data := .fields #[vl, .none, vs] }).push { cls := .type "tuple", data := .seq ((idsT its.toArray.size l j).filterMap (fun x => its.toArray[x]?)).toArray } }
  rw [ea]
  have vp := vals_pick r (idsT xs.length l j)
  refine ⟨.ref _, _, I5.laid (t' := s4.toks) (o := .tup (pickT xs l j)) (fun b ob q => Heap.get?_push_of_some _ q) (Nat.le_refl _) ?_, rfl, q.go _ (I5.hok.fresh (Nat.le_refl _))⟩
  exact ⟨Nat.le_trans (List.length_filterMap_le _ _) hz, _, vp, IsTup.new _ _⟩
theorem pe_slStepT {e : Expr} {lo : Option Expr} {te : TE} {tl : TO} {j : Int} {k : Nat} {p1 p3 pos : Pos} (he : PE X e te) (hl : PO X lo tl) (hj : j ≠ 0) (hj1 : j ≠ 1) (hK : X.K = K := by rfl) :
    PE X (.Subscript e (.Slice lo none (some (.Constant (.int j) k p1)) p3) pos) (tSlStepT K te tl j) :=
  pe_slStepTE he hl pe_int (fun _ _ _ q => q) hj hj1 hK
/-- t[::-1] -/
theorem pe_slRevT {e : Expr} {te : TE} {k : Nat} {p1 p2 p3 pos : Pos} (he : PE X e te) (hK : X.K = K := by rfl) :
    PE X (.Subscript e (.Slice none none (some (.UnaryOp .USub (.Constant (.int 1) k p1) p2)) p3) pos) (tSlStepT K te tNoPart (-1)) :=
  pe_slStepTE he po_none (pe_un un_neg pe_int) (fun σ H Q q => ⟨1, rfl, q⟩) (by decide) (by decide) hK
end
theorem ids_rev (n : Nat) : idsT n none (-1) = (List.range n).map fun i => n - 1 - i := by
  unfold idsT Builtin.Slice.slicePlaces Builtin.Slice.sliceAdjust
  cases n with
  | zero => rfl
  | succ n =>
    simp
    congr 1
    all_goals first
      | omega
      | (funext i; omega)
      | (congr 1; omega)
theorem ids_evens (n : Nat) : idsT n none 2 = (List.range ((n + 1) / 2)).map fun i => 2 * i := by
  unfold idsT Builtin.Slice.slicePlaces Builtin.Slice.sliceAdjust
  cases n with
  | zero => rfl
  | succ n =>
    simp
    congr 1
    all_goals first
      | omega
      | (funext i; omega)
      | (congr 1; omega)
theorem ids_odds (n : Nat) : idsT n (some 1) 2 = (List.range (n / 2)).map fun i => 2 * i + 1 := by
  unfold idsT Builtin.Slice.slicePlaces Builtin.Slice.sliceAdjust
  cases n with
  | zero => rfl
  | succ n =>
    have e1 : min (1 : Int) ((n + 1 : Nat) : Int) = 1 := by omega
    simp only [show ¬ (2 : Int) < 0 by decide, show ¬ (1 : Int) < 0 by decide, if_false, e1, show (2 : Int) > 0 by decide, if_true]
    congr 1
    all_goals first
      | omega
      | (funext i; omega)
      | (congr 1; split <;> omega)
theorem pickT_rev (xs : List V) : pickT xs none (-1) = xs.reverse := by
  unfold pickT
  rw [ids_rev]
  refine List.ext_getElem? fun i => ?_
  rw [pick_by xs (fun i => xs.length - 1 - i) _ (fun i hi => by omega)]
  split
  · rename_i h
    rw [List.getElem?_reverse h]
  · rw [List.getElem?_eq_none (by simp; omega)]
theorem pickT_evens (xs : List V) : pickT xs none 2 = Pl.evens xs := by
  unfold pickT
  rw [ids_evens]
  refine List.ext_getElem? fun i => ?_
  rw [pick_by xs (fun i => 2 * i) _ (fun i hi => by omega), Pl.evens_get]
  split
  · rfl
  · rw [List.getElem?_eq_none (by omega)]
theorem pickT_odds (xs : List V) : pickT xs (some 1) 2 = Pl.odds xs := by
  unfold pickT
  rw [ids_odds]
  refine List.ext_getElem? fun i => ?_
  rw [pick_by xs (fun i => 2 * i + 1) _ (fun i hi => by omega), Pl.odds_get]
  split
  · rfl
  · rw [List.getElem?_eq_none (by omega)]
end L2
namespace Pl
open PySem PySem.Spec PyProof.Rows L2 RZ
section
variable {K : PySem.W.Frag} {σ : L2.St} {H : Hp} {Q : VK}
theorem k_stT {te : TE} {tl : TO} {k : Int} (q : te σ H fun x H1 => tl σ H1 fun lo H2 => ∃ a xs, x = .ref a ∧ SqT K H2 a xs ∧ (idsT xs.length lo k).length ≤ sizeLine ∧ NewT K (pickT xs lo k) H2 Q) : tSlStepT K te tl k σ H Q := q
theorem k_np {QO : Option Int → Hp → Prop} (q : QO none H) : tNoPart σ H QO := q
theorem ids_rev_len (n : Nat) (h : n ≤ 100000) : (idsT n none (-1)).length ≤ sizeLine := by
  rw [ids_rev, List.length_map, List.length_range, sizeLine_eq]
  omega
theorem ids_evens_len (n : Nat) (h : n ≤ 100000) : (idsT n none 2).length ≤ sizeLine := by
  rw [ids_evens, List.length_map, List.length_range, sizeLine_eq]
  omega
theorem ids_odds_len (n : Nat) (h : n ≤ 100000) : (idsT n (some 1) 2).length ≤ sizeLine := by
  rw [ids_odds, List.length_map, List.length_range, sizeLine_eq]
  omega
end
/-- isinstance(n, bool) of a number -/
def rIsBool : List V → Hp → VK → Prop := fun xs H Q => ∃ i : Int, xs = [.int i, .ty "bool"] ∧ Q (.bl false) H
theorem call_isBool {X : Cx} : CallR X (.builtin "isinstance") rIsBool := by
  intro pins s σ H xs us Q I r h
  obtain ⟨i, rfl, q⟩ := h
  exact call_isi pins s σ H _ us Q I r ⟨_, _, _, _, false, rfl, .ty _, (.base (.int i)), rfl, q⟩
end Pl

set_option Elab.async false
set_option linter.all false
set_option maxRecDepth 100000
set_option maxHeartbeats 2000000
/-! x[i], x[i] = v, v in x, len(x) of instances with such defs -/
namespace Pl
open PySem PySem.Spec PyProof.Rows L2 RZ PySem.Calls
section
variable {X : Cx} {CX : CXT} {k : Nat} {f C : Addr} {fd : FuncData} {ps : List Str} {sp : Sp} {E : L2.St → XK} {a b : Expr} {ta tb : TE} {pos : Pos}
theorem run_fn1 {pins : List (Addr × Obj)} {σ : L2.St} {H : Hp} {s : Shared} {Q : VK} {us : List Value} {vs : List V} (F : FnOk X.prog X.w X.K X.mg X.base CX k f fd ps sp) (hr : Room (k + 1) X.A) (hb : Binds X.K fd ps []) (hx : PassesAt CX X σ (E σ))
    (I : Inv X pins σ H s) (r : Vals vs us) (h : sp vs H Q (E σ)) : wpAny (model X.prog X.w) X.A.in1 (call (.ref f) us) (EP X pins σ Q) X.xe s := by
  have hl : us.length = ps.length := by rw [← r.length]; exact F.len _ _ _ _ h
  have bd := hb s us I.kIn (by rw [List.append_nil]; exact hl)
  rw [List.append_nil] at bd
  refine wpAny_call (codeAny_mono (F.run X.A.in1 X.stack s H ⟨us, []⟩ us vs Q (E σ) hr.in1 I.env0.in1 bd r h) fun r s' hq => ?_)
  cases r with
  | error e => exact hx pins H s e s' I hq
  | ok fl =>
    cases fl with
    | ret u => exact I.after hq
    | next => exact hq.elim
    | brk => exact hq.elim
    | cont => exact hq.elim
/-! x[i] -/
def rIxOwn (C : Addr) (sp : Sp) (E : L2.St → XK) : L2.St → R2 := fun σ x y H Q => ∃ a dx fs i, x = .ref a ∧ y = .int i ∧ H a = some (.ins C dx fs) ∧ sp [.ref a, .int i] H Q (E σ)
theorem pe_ixOwnS (hm : Meth X.K C "__getitem__" f) (hfn : PySem.W.fnIn X.K f = true) (F : FnOk X.prog X.w X.K X.mg X.base CX k f fd ps sp) (hr : Room (k + 1) X.A) (hb : Binds X.K fd ps []) (hx : ∀ σ, PassesAt CX X σ (E σ)) (ha : PE X a ta) (hi : PE X b tb)
    (hsl : ∀ o i, subscripted b true o i = runValue (.builtin "lifetime.subscript" ⟨[o, i], []⟩) := by intro _ _; rfl) : PE X (.Subscript a b pos) (tOpS (rIxOwn C sp E) ta tb) := by
  refine ⟨fun pins s σ H Q I h => ?_⟩
  refine Subscript_ (binT ha hi I h fun v u s2 x y H2 I2 rx ry q => ?_)
  obtain ⟨o, dx, fs, i, rfl, rfl, e, q⟩ := q
  cases rx
  obtain ⟨t, rfl⟩ := ry
  obtain ⟨mA, J, _⟩ := ins_get I2.hok e
  obtain ⟨od, J, _⟩ := J.look
  obtain ⟨m, hF⟩ := I2.fr
  exact PySem.W.sub_K hF I2.ok.mod.kin J hm.at_ hfn hm.fn (run_fn1 (us := [.ref o, .int i t]) (vs := [.ref o, .int i]) F hr hb (hx σ) I2 (.cons rfl (.cons ⟨_, rfl⟩ .nil)) q) (hsl _ _)
/-! v in x -/
def rInOwn (C : Addr) (sp : Sp) (E : XK) : R2 := fun x y H Q => ∃ a dx fs i, x = .int i ∧ y = .ref a ∧ H a = some (.ins C dx fs) ∧ sp [.ref a, .int i] H (fun v H' => ∃ c, v = .bl c ∧ Q (.bl c) H') E
theorem op_inOwn {E : XK} (hm : Meth X.K C "__contains__" f) (F : FnOk X.prog X.w X.K X.mg X.base CX k f fd ps sp) (hr : Room k X.A) (hb : Binds X.K fd ps []) (hx : Passes CX X E) : OpR X (compareOp .In) (rInOwn C sp E) := by
  intro pins s σ H x' y v u Q I rx ry h
  obtain ⟨o, dx, fs, i, rfl, rfl, e, q⟩ := h
  obtain ⟨t, rfl⟩ := rx
  cases ry
  obtain ⟨mA, J, _⟩ := ins_get I.hok e
  obtain ⟨od, J, _⟩ := J.look
  obtain ⟨m, hF⟩ := I.fr
  refine PySem.W.in_K hF I.ok.mod.kin J hm.at_ hm.fn (wpAny_mono (run_fn (us := [.ref o, .int i t]) (vs := [.ref o, .int i]) F hr hb .nil hx I (.cons rfl (.cons ⟨_, rfl⟩ .nil)) q) (fun r s' z => ?_) fun _ _ z => z)
  obtain ⟨v, H', I', rv, c, rfl, q⟩ := z
  cases rv
  exact wpAny_truthy_bool ⟨.bl c, H', I', rfl, q⟩
/-! len(x) -/
def rLenOwn (C : Addr) (sp : Sp) (E : XK) : List V → Hp → VK → Prop := fun xs H Q => ∃ a dx fs, xs = [.ref a] ∧ H a = some (.ins C dx fs) ∧ sp [.ref a] H (fun v H' => ∃ n : Int, v = .int n ∧ 0 ≤ n ∧ n < 2 ^ 62 ∧ Q (.int n) H') E
theorem call_lenOwn {E : XK} (hm : Meth X.K C "__len__" f) (F : FnOk X.prog X.w X.K X.mg X.base CX k f fd ps sp) (hr : Room (k + 1) X.A) (hb : Binds X.K fd ps []) (hx : Passes CX X E) : CallR X (.builtin "len") (rLenOwn C sp E) := by
  intro pins s σ H xs us Q I r h
  obtain ⟨o, dx, fs, rfl, e, q⟩ := h
  obtain ⟨u, rfl, ru⟩ := vals1 r
  cases ru
  obtain ⟨mA, J, _⟩ := ins_get I.hok e
  obtain ⟨od, J, _⟩ := J.look
  obtain ⟨m, hF⟩ := I.fr
  refine PySem.W.len_K hF I.ok.mod.kin J hm.at_ hm.fn (wpAny_mono (run_fn1 (E := fun _ => E) (us := [.ref o]) (vs := [.ref o]) F hr hb (fun pins' H' s0 e0 s1 I0 z => hx pins' σ H' s0 e0 s1 I0 z) I (.cons rfl .nil) q) (fun r s' z => ?_) fun _ _ z => z)
  obtain ⟨v, H', I', rv, n, rfl, h0, h1, q⟩ := z
  obtain ⟨t, rfl⟩ := rv
  exact ⟨⟨h0, by omega⟩, .int n, H', I'.tok _, ⟨_, rfl⟩, q⟩
/-! x[i] = v -/
def gSetOwn (C : Addr) (sp : Sp) (E : L2.St → XK) (to ti : TE) : TG := fun v σ H Q => to σ H fun o H1 => ti σ H1 fun i H2 => ∃ a dx fs, o = .ref a ∧ H2 a = some (.ins C dx fs) ∧ sp [.ref a, i, v] H2 (fun _ H3 => Q σ H3) (E σ)
theorem pg_setOwnS (hm : Meth X.K C "__setitem__" f) (hq : PySem.W.noSeq X.K C = true) (F : FnOk X.prog X.w X.K X.mg X.base CX k f fd ps sp) (hr : Room k X.A) (hb : Binds X.K fd ps []) (hx : ∀ σ, PassesAt CX X σ (E σ)) (ho : PE X a ta) (hi : PE X b tb)
    (has : ∀ v, assign (.Subscript a b pos) X.env v = (do
      let ov ← holding [v] (eval a X.env)
      let iv ← holding [v, ov] (eval b X.env)
      standAt pos
      holding [v, ov, iv] (setItem ov iv v)
      release [v, ov, iv] []) := by intro _; rfl) : PG X (.Subscript a b pos) (gSetOwn C sp E ta tb) := by
  refine ⟨fun pins s σ H v u Q I r h => ?_⟩
  rw [has]
  refine wpAny_bind (wpAny_holding (thn (ho.run pins s σ H _ I h) fun ov s1 ⟨x, H1, I1, r1, q1⟩ => ?_))
  refine wpAny_bind (wpAny_holding (thn (hi.run pins s1 σ H1 _ I1 q1) fun iv s2 ⟨y, H2, I2, r2, o, dx, fs, eo, e, q2⟩ => ?_))
  subst eo
  cases r1
  obtain ⟨mA, J, _⟩ := ins_get I2.hok e
  obtain ⟨od, J, _⟩ := J.look
  obtain ⟨m, hF⟩ := I2.fr
  refine wpAny_bind (wpAny_standAt (wpAny_bind (wpAny_holding (PySem.W.ksp_setItem hF I2.ok.mod.kin J hq hm.at_ hm.fn (thn (run_fnT (us := [.ref o, iv, u]) (vs := [.ref o, y, v]) F hr hb .nil (hx σ) I2 (.cons rfl (.cons r2 (.cons r .nil))) q2) fun w s3 z => ?_)))))
  obtain ⟨w', H3, I3, _, q3⟩ := z
  exact wpAny_release ⟨σ, H3, I3, q3⟩
theorem passAtOf {E : XK} (h : Passes CX X E) : ∀ σ, PassesAt CX X σ ((fun _ => E : L2.St → XK) σ) := fun σ pins H s e s' I z => h pins σ H s e s' I z
end
section
variable {σ : L2.St} {H : Hp} {Q : VK} {K : PySem.W.Frag}
theorem k_lrg {te : L2.St → Hp → (Int → Int → Hp → Prop) → Prop} (q : te σ H fun a b H1 => RgOk a b ∧ NewL (rgV a b) H1 Q) : tLstRgN te σ H Q := q
theorem k_rg1 {te : TE} {R : Int → Int → Hp → Prop} (q : te σ H fun x H1 => ∃ j, x = .int j ∧ R 0 j H1) : tRg1 te σ H R := q
theorem in_ints (z : Int) : ∀ ds : List Int, inV (V.int z) (ds.map V.int) = decide (z ∈ ds)
  | [] => by simp [inV]
  | d :: ds => by
    have ih := in_ints z ds
    unfold inV at ih ⊢
    rw [List.map_cons, List.any_cons, ih]
    have e : eqV (V.int d) (V.int z) = decide (d = z) := rfl
    rw [e]
    by_cases h : z = d
    · subst h
      simp
    · have h2 : ¬ d = z := fun e => h e.symm
      simp [h, h2]
theorem flat_ints : ∀ ds : List Int, (ds.map V.int).all flatV = true
  | [] => rfl
  | d :: ds => by rw [List.map_cons, List.all_cons, flat_ints ds]; rfl
theorem k_inQ {a : Addr} {z : Int} {ds : List Int} (h : Sq K H a (ds.map V.int)) (q : Q (.bl (decide (z ∈ ds))) H) : rIn K false (.int z) (.ref a) H Q := ⟨a, _, rfl, h, rfl, flat_ints ds, by rw [in_ints]; exact q⟩
theorem k_listN {a : Addr} {xs : List Int} (h : Sq K H a (xs.map V.int)) (q : ∀ H' p, Same H H' → H p = none → H' p = some (.lst (xs.map V.int)) → Q (.ref p) H') : rListN K [.ref a] H Q := ⟨a, _, rfl, h, fun H' p s n e => q H' p s n e⟩
theorem k_inOwn {C a dx : Addr} {fs : List (Str × V)} {i : Int} {sp : Sp} {E : XK} (h : H a = some (.ins C dx fs)) (q : sp [.ref a, .int i] H (fun v H' => ∃ c, v = .bl c ∧ Q (.bl c) H') E) : rInOwn C sp E (.int i) (.ref a) H Q := ⟨a, dx, fs, i, rfl, rfl, h, q⟩
theorem k_ixOwn {C a dx : Addr} {fs : List (Str × V)} {i : Int} {sp : Sp} {E : L2.St → XK} (h : H a = some (.ins C dx fs)) (q : sp [.ref a, .int i] H Q (E σ)) : rIxOwn C sp E σ (.ref a) (.int i) H Q := ⟨a, dx, fs, i, rfl, rfl, h, q⟩
theorem k_lenOwn {C a dx : Addr} {fs : List (Str × V)} {sp : Sp} {E : XK} (h : H a = some (.ins C dx fs)) (q : sp [.ref a] H (fun v H' => ∃ n : Int, v = .int n ∧ 0 ≤ n ∧ n < 2 ^ 62 ∧ Q (.int n) H') E) : rLenOwn C sp E [.ref a] H Q := ⟨a, dx, fs, rfl, h, q⟩
end
section
variable {σ : L2.St} {H : Hp} {Q : VK} {K : PySem.W.Frag}
/-- l.append(v): goes on where the list is longer by v -/
theorem k_append {to : TE} {t : TA} (q : to σ H fun x H1 => tyV K "list" x H1 ∧ t σ H1 fun xs H2 => rAppendN x xs H2 Q) : tBM K "list" rAppendN to t σ H Q := q
theorem tyL {l : Addr} {xs : List V} {R : Prop} (h : H l = some (.lst xs)) (q : R) : tyV K "list" (.ref l) H ∧ R := ⟨.inl ⟨rfl, xs, SqL.of h⟩, q⟩
theorem k_appM {l : Addr} {xs : List V} {y : V} (h : H l = some (.lst xs)) (hl : xs.length ≤ 1000000) (q : ∀ H', SameBut l H H' → H' l = some (.lst (xs ++ [y])) → Q .non H') : rAppendN (.ref l) [y] H Q := ⟨l, xs, y, rfl, rfl, h, len_big hl, q⟩
theorem sb_ins {l a C dx : Addr} {H' : Hp} {xs : List V} {fs : List (Str × V)} (b : SameBut l H H') (hl : H l = some (.lst xs)) (h : H a = some (.ins C dx fs)) : H' a = some (.ins C dx fs) := b _ _ (ne_of h hl (by intro z; cases z)) h
theorem sb_tup {l a : Addr} {H' : Hp} {xs ys : List V} (b : SameBut l H H') (hl : H l = some (.lst xs)) (h : SqT K H a ys) : SqT K H' a ys := by
  rcases h with (h | ⟨o, h⟩) | h
  · exact .inl (.inl (b _ _ (ne_of h hl (by intro z; cases z)) h))
  · exact .inl (.inr ⟨o, b _ _ (ne_of h hl (by intro z; cases z)) h⟩)
  · exact .inr h
end
section
variable {σ : L2.St} {H : Hp} {Q : VK} {K : PySem.W.Frag}
theorem k_catT {a b : Addr} {xs ys : List Int} (h1 : SqT K H a (xs.map V.int)) (h2 : SqT K H b (ys.map V.int)) (hl : xs.length + ys.length ≤ 1000000) (q : ∀ H' t, Same H H' → SqT K H' t ((xs ++ ys).map V.int) → Q (.ref t) H') : rCatT2 K (.ref a) (.ref b) H Q :=
  ⟨a, b, _, _, rfl, rfl, h1, h2, by rw [List.length_map, List.length_map]; exact small hl, fun H' p s e => q H' p s (by rw [List.map_append]; exact e)⟩
theorem range_self (ds : List Int) : (List.range ds.length).map (fun j => ds.getD j 0) = ds := ent_self ds
theorem cut_m1 (xs : List V) : cutV xs none (some (-1)) = xs.take (xs.length - 1) := by
  unfold cutV
  have e : HT.sIx xs.length xs.length (some (-1)) = xs.length - 1 := by
    show (if (-1 : Int) < 0 then ((-1 : Int) + (xs.length : Int)).toNat else min (-1 : Int).toNat xs.length) = _
    rw [if_pos (by decide)]
    omega
  rw [e, HT.sIx_none, List.drop_zero, Nat.sub_zero]
end
section
variable {σ : L2.St} {H : Hp} {K : PySem.W.Frag} {g : TG} {tb : TS} {D : Ends}
/-- behind a loop's walk J -/
def ForTail (J : It) (g : TG) (tb : TS) (D : Ends) (σ : L2.St) (H : Hp) : Prop := ∃ W : Nat → Nat → L2.St → Hp → Prop, (∃ m, W 0 m σ H) ∧ ∀ i m σ H, W i m σ H →
  (J.stop i H ∧ D.nx σ H) ∨ (J.go i H ∧ ∃ N : L2.St → Hp → Prop, (∀ σ' H', N σ' H' → ∃ m', m' < m ∧ W (i + 1) m' σ' H') ∧ ∀ x H', J.yld i H x H' → g x σ H' fun σ2 H2 => tb { D with nx := N, ct := N, bk := D.nx } σ2 H2)
theorem k_forL {tl : TE} (q : tl σ H fun x H1 => ∃ a, x = .ref a ∧ (∃ xs, SqL K H1 a xs) ∧ ForTail (Itl K a) g tb D σ H1) : tFor (iList K tl) g tb D σ H := q
theorem k_forT {tl : TE} (q : tl σ H fun x H1 => ∃ a, x = .ref a ∧ (∃ xs, SqT K H1 a xs) ∧ ForTail (Itt K a) g tb D σ H1) : tFor (iTup K tl) g tb D σ H := q
theorem k_forR1 {ta : TA} (q : ta σ H fun us H1 => ∃ j : Int, us = [.int j] ∧ -(2 ^ 62) ≤ j ∧ j < 2 ^ 62 ∧ ForTail (Itr 0 j.toNat) g tb D σ H1) : tFor (iRng1 ta) g tb D σ H := q
theorem k_forR2 {ta : TA} (q : ta σ H fun us H1 => ∃ i j : Int, us = [.int i, .int j] ∧ (-(2 ^ 62) ≤ i ∧ i < 2 ^ 62 ∧ -(2 ^ 62) ≤ j ∧ j < 2 ^ 62) ∧ ForTail (Itr i (j - i).toNat) g tb D σ H1) : tFor (iRng2 ta) g tb D σ H := q
/-- for u in a list of numbers -/
theorem k_forInts {a : Addr} {xs : List Int} (Pv : Nat → L2.St → Hp → Prop) (h0 : Pv 0 σ H) (hl : ∀ i σ H, i ≤ xs.length → Pv i σ H → SqL K H a (xs.map V.int)) (hS : SqL K H a (xs.map V.int))
    (hs : ∀ i u σ H, xs[i]? = some u → Pv i σ H → g (.int u) σ H fun σ2 H2 => tb { D with nx := Pv (i + 1), ct := Pv (i + 1), bk := D.nx } σ2 H2) (hd : ∀ σ H, Pv xs.length σ H → D.nx σ H) : (∃ ys, SqL K H a ys) ∧ ForTail (Itl K a) g tb D σ H :=
  ⟨⟨_, hS⟩, for_list (xs := xs.map V.int) Pv h0 (fun i σ H h p => hl i σ H (by rw [List.length_map] at h; exact h) p) (fun i x σ H hx p => by
    obtain ⟨u, hu, rfl⟩ := map_get hx
    exact hs i u σ H hu p) (fun σ H p => hd σ H (by rw [List.length_map] at p; exact p))⟩
end
theorem k_sfld {K : PySem.W.Frag} {ta tv : TE} {f : Str} {D : Ends} {σ : L2.St} {H : Hp} (q : tv σ H fun y H1 => ta σ H1 fun x H2 => ∃ a C dx fs, x = .ref a ∧ H2 a = some (.ins C dx fs) ∧ Cls K C ∧ NoAttr K C f ∧ fs.length < 1000 ∧ D.nx σ (upd H2 a (.ins C dx (putF f y fs)))) : sFld K ta tv f D σ H := q
theorem k_setOwn {C : Addr} {sp : Sp} {E : L2.St → XK} {to ti : TE} {v : V} {σ : L2.St} {H : Hp} {Q : L2.St → Hp → Prop} (q : to σ H fun o H1 => ti σ H1 fun i H2 => ∃ a dx fs, o = .ref a ∧ H2 a = some (.ins C dx fs) ∧ sp [.ref a, i, v] H2 (fun _ H3 => Q σ H3) (E σ)) : gSetOwn C sp E to ti v σ H Q := q
section
variable {σ : L2.St} {H : Hp} {Q : VK} {K : PySem.W.Frag}
theorem k_gsub {to ti : TE} {t : TSet} {v : V} {N : L2.St → Hp → Prop} (q : to σ H fun o H1 => ti σ H1 fun i H2 => t o i v H2 fun H3 => N σ H3) : gSub to ti t v σ H N := q
theorem k_setL {l : Addr} {xs : List Int} {i z : Int} {R : Hp → Prop} (h : H l = some (.lst (xs.map V.int))) (h0 : 0 ≤ i) (h1 : i < xs.length) (q : ∀ H', SameBut l H H' → H' l = some (.lst ((xs.set i.toNat z).map V.int)) → R H') : rSetL (.ref l) (.int i) (.int z) H R := by
  refine ⟨l, _, i, i.toNat, rfl, rfl, h, ?_, q _ .of_upd ?_⟩
  · unfold ixN
    rw [List.length_map, if_pos h0, if_pos h1]
  · rw [upd_same, List.map_set]
theorem k_ixR {l : Addr} {us : List Addr} {u : Addr} (h : H l = some (.lst (us.map V.ref))) (e : us[0]? = some u) (q : Q (.ref u) H) : rIxL K (.ref l) (.int 0) H Q :=
  ⟨_, _, _, _, rfl, rfl, SqL.of h, atI_nat (j := 0) (by rw [List.getElem?_map, e]; rfl), q⟩
theorem k_tupleN {a : Addr} {xs : List Int} (h : Sq K H a (xs.map V.int)) (q : ∀ H' t, Same H H' → SqT K H' t (xs.map V.int) → Q (.ref t) H') : rTupleN K [.ref a] H Q := ⟨a, _, rfl, h, fun H' p s hT => q H' p s hT⟩
theorem k_sumQ {a : Addr} {xs : List Int} (h : Sq K H a (xs.map V.int)) (q : Q (.int xs.sum) H) : rSumQ K [.ref a] H Q := ⟨a, xs, rfl, h, q⟩
end
theorem k_forRng {lo : Int} {n : Nat} {g : TG} {tb : TS} {D : Ends} {σ : L2.St} {H : Hp} (Pv : Nat → L2.St → Hp → Prop) (h0 : Pv 0 σ H)
    (hs : ∀ i σ H, i < n → Pv i σ H → g (.int (lo + i)) σ H fun σ2 H2 => tb { D with nx := Pv (i + 1), ct := Pv (i + 1), bk := D.nx } σ2 H2) (hd : ∀ σ H, Pv n σ H → D.nx σ H) : ForTail (Itr lo n) g tb D σ H := for_range Pv h0 hs hd
end Pl

set_option Elab.async false
set_option linter.all false
set_option maxRecDepth 100000
set_option maxHeartbeats 2000000
/-! what values tell: Lean data behind ints, texts, tuples, lists, nested to any depth -/
namespace Pl
open PySem PySem.Spec PyProof.Rows L2 RZ
abbrev Rel (α : Type) := PySem.W.Frag → Hp → V → α → Prop
/-! ### how heaps grow -/
class Evo (E : Hp → Hp → Prop) : Prop where
  refl : ∀ H, E H H
  trans : ∀ {H H1 H2}, E H H1 → E H1 H2 → E H H2
  same : ∀ {H H'}, Same H H' → E H H'
  but : ∀ {H H1 H2 l}, E H H1 → H l = none → SameBut l H1 H2 → E H H2
instance : Evo Same := ⟨Same.refl, Same.trans, id, Same.but⟩
instance : Evo Keep := ⟨Keep.refl, Keep.trans, keep_of, Keep.but⟩
/-- all but the lists of M stays -/
def Kx (M : Addr → Prop) (H H' : Hp) : Prop := ∀ b o, (M b → ∀ xs, o ≠ .lst xs) → H b = some o → H' b = some o
instance {M : Addr → Prop} : Evo (Kx M) where
  refl H := fun b o _ e => e
  trans a b := fun x o n e => b x o n (a x o n e)
  same s := fun b o _ e => s b o e
  but s hl b := fun x o n e => b x o (ne_of_none e hl) (s x o n e)
class Car (E : Hp → Hp → Prop) {α : Type} (r : Rel α) : Prop where
  car : ∀ {K H H' v x}, E H H' → r K H v x → r K H' v x
/-- tuples stay -/
class CarT (E : Hp → Hp → Prop) : Prop where
  tup : ∀ {K H H' a xs}, E H H' → SqT K H a xs → SqT K H' a xs
  ins : ∀ {H H' a C dx fs}, E H H' → H a = some (.ins C dx fs) → H' a = some (.ins C dx fs)
instance : CarT Same := ⟨Same.seqT, fun s h => s _ _ h⟩
instance : CarT Keep := ⟨Keep.seqT, Keep.ins⟩
theorem kx_tup {M : Addr → Prop} {K : PySem.W.Frag} {H H' : Hp} {a : Addr} {xs : List V} (k : Kx M H H') (h : SqT K H a xs) : SqT K H' a xs := by
  rcases h with (h | ⟨o, h⟩) | h
  · exact .inl (.inl (k _ _ (fun _ _ z => by cases z) h))
  · exact .inl (.inr ⟨o, k _ _ (fun _ _ z => by cases z) h⟩)
  · exact .inr h
instance {M : Addr → Prop} : CarT (Kx M) := ⟨kx_tup, fun k h => k _ _ (fun _ _ z => by cases z) h⟩
/-! ### relations -/
def rI : Rel Int := fun _ _ v x => v = .int x
def rS : Rel Str := fun _ _ v x => v = .str x ∧ PyData.strOk x = true
def rB : Rel Bool := fun _ _ v x => v = .bl x
def rN : Rel Unit := fun _ _ v _ => v = .non
def AllR {α : Type} (r : Rel α) (K : PySem.W.Frag) (H : Hp) : List V → List α → Prop
  | [], [] => True
  | v :: vs, x :: xs => r K H v x ∧ AllR r K H vs xs
  | _, _ => False
def rPair {α β : Type} (r : Rel α) (s : Rel β) : Rel (α × β) := fun K H v p => ∃ T a b, v = .ref T ∧ SqT K H T [a, b] ∧ r K H a p.1 ∧ s K H b p.2
def rTri {α β γ : Type} (r : Rel α) (s : Rel β) (t : Rel γ) : Rel (α × β × γ) := fun K H v p => ∃ T a b c, v = .ref T ∧ SqT K H T [a, b, c] ∧ r K H a p.1 ∧ s K H b p.2.1 ∧ t K H c p.2.2
def rT {α : Type} (r : Rel α) : Rel (List α) := fun K H v xs => ∃ T vs, v = .ref T ∧ SqT K H T vs ∧ AllR r K H vs xs
def rL {α : Type} (r : Rel α) : Rel (List α) := fun K H v xs => ∃ a vs, v = .ref a ∧ H a = some (.lst vs) ∧ AllR r K H vs xs
/-- a list that is none of M -/
def rM (M : Addr → Prop) {α : Type} (r : Rel α) : Rel (List α) := fun K H v xs => ∃ a vs, v = .ref a ∧ ¬ M a ∧ H a = some (.lst vs) ∧ AllR r K H vs xs
/-- a list or a tuple -/
def rQ {α : Type} (r : Rel α) : Rel (List α) := fun K H v xs => ∃ a vs, v = .ref a ∧ Sq K H a vs ∧ AllR r K H vs xs
def rO {α : Type} (r : Rel α) : Rel (Option α) := fun K H v x => match x with
  | none => v = .non
  | some y => r K H v y
section
variable {α β γ : Type} {r : Rel α} {s : Rel β} {t : Rel γ} {K : PySem.W.Frag} {H H' : Hp} {E : Hp → Hp → Prop}
theorem AllR.length : ∀ {vs : List V} {xs : List α}, AllR r K H vs xs → vs.length = xs.length
  | [], [], _ => rfl
  | _ :: vs, _ :: xs, h => by rw [List.length_cons, List.length_cons, AllR.length (vs := vs) (xs := xs) h.2]
  | [], _ :: _, h => h.elim
  | _ :: _, [], h => h.elim
theorem AllR.get : ∀ {vs : List V} {xs : List α} {i : Nat} {v : V}, AllR r K H vs xs → vs[i]? = some v → ∃ x, xs[i]? = some x ∧ r K H v x
  | [], [], _, _, _, h => by simp at h
  | u :: vs, x :: xs, 0, v, h, e => by
    cases e
    exact ⟨x, rfl, h.1⟩
  | u :: vs, x :: xs, i + 1, v, h, e => AllR.get (vs := vs) (xs := xs) (i := i) h.2 e
  | [], _ :: _, _, _, h, _ => h.elim
  | _ :: _, [], _, _, h, _ => h.elim
theorem AllR.at : ∀ {vs : List V} {xs : List α} {i : Nat} {x : α}, AllR r K H vs xs → xs[i]? = some x → ∃ v, vs[i]? = some v ∧ r K H v x
  | [], [], _, _, _, h => by simp at h
  | u :: vs, x :: xs, 0, v, h, e => by
    cases e
    exact ⟨u, rfl, h.1⟩
  | u :: vs, x :: xs, i + 1, v, h, e => AllR.at (vs := vs) (xs := xs) (i := i) h.2 e
  | [], _ :: _, _, _, h, _ => h.elim
  | _ :: _, [], _, _, h, _ => h.elim
theorem AllR.map {r' : Rel α} {H' : Hp} (f : ∀ v x, r K H v x → r' K H' v x) : ∀ {vs : List V} {xs : List α}, AllR r K H vs xs → AllR r' K H' vs xs
  | [], [], _ => trivial
  | _ :: vs, _ :: xs, h => ⟨f _ _ h.1, AllR.map f (vs := vs) (xs := xs) h.2⟩
  | [], _ :: _, h => h.elim
  | _ :: _, [], h => h.elim
theorem AllR.append : ∀ {vs ws : List V} {xs ys : List α}, AllR r K H vs xs → AllR r K H ws ys → AllR r K H (vs ++ ws) (xs ++ ys)
  | [], _, [], _, _, h => h
  | _ :: vs, _, _ :: xs, _, h, k => ⟨h.1, AllR.append (vs := vs) (xs := xs) h.2 k⟩
  | [], _, _ :: _, _, h, _ => h.elim
  | _ :: _, _, [], _, h, _ => h.elim
theorem AllR.snoc {vs : List V} {xs : List α} {v : V} {x : α} (h : AllR r K H vs xs) (k : r K H v x) : AllR r K H (vs ++ [v]) (xs ++ [x]) := h.append (show AllR r K H [v] [x] from ⟨k, trivial⟩)
theorem AllR.take : ∀ {vs : List V} {xs : List α} (n : Nat), AllR r K H vs xs → AllR r K H (vs.take n) (xs.take n)
  | [], [], n, _ => by
    rw [List.take_nil, List.take_nil]
    trivial
  | _ :: vs, _ :: xs, 0, h => trivial
  | _ :: vs, _ :: xs, n + 1, h => ⟨h.1, AllR.take (vs := vs) (xs := xs) n h.2⟩
  | [], _ :: _, _, h => h.elim
  | _ :: _, [], _, h => h.elim
theorem AllR.drop : ∀ {vs : List V} {xs : List α} (n : Nat), AllR r K H vs xs → AllR r K H (vs.drop n) (xs.drop n)
  | [], [], n, _ => by
    rw [List.drop_nil, List.drop_nil]
    trivial
  | _ :: vs, _ :: xs, 0, h => h
  | _ :: vs, _ :: xs, n + 1, h => AllR.drop (vs := vs) (xs := xs) n h.2
  | [], _ :: _, _, h => h.elim
  | _ :: _, [], _, h => h.elim
theorem allR_of {vs : List V} {xs : List α} (hl : vs.length = xs.length) (h : ∀ (i : Nat) (v : V), vs[i]? = some v → ∃ x, xs[i]? = some x ∧ r K H v x) : AllR r K H vs xs := by
  induction vs generalizing xs with
  | nil => cases xs with
    | nil => trivial
    | cons _ _ => cases hl
  | cons v vs ih => cases xs with
    | nil => cases hl
    | cons x xs =>
      obtain ⟨y, hy, h0⟩ := h 0 v rfl
      cases hy
      exact ⟨h0, ih (Nat.succ.inj hl) fun i w hw => h (i + 1) w hw⟩
theorem allI (ns : List Int) : AllR rI K H (ns.map V.int) ns := by
  induction ns with
  | nil => trivial
  | cons n ns ih => exact ⟨rfl, ih⟩
theorem AllR.ints : ∀ {vs : List V} {ns : List Int}, AllR rI K H vs ns → vs = ns.map V.int
  | [], [], _ => rfl
  | v :: vs, n :: ns, h => by
    rw [List.map_cons, AllR.ints (vs := vs) (ns := ns) h.2]
    exact congrArg (· :: _) h.1
  | [], _ :: _, h => h.elim
  | _ :: _, [], h => h.elim
theorem AllR.car [c : Car E r] (e : E H H') {vs : List V} {xs : List α} (h : AllR r K H vs xs) : AllR r K H' vs xs := AllR.map (fun _ _ => Car.car e) h
instance : Car E rI := ⟨fun _ h => h⟩
instance : Car E rS := ⟨fun _ h => h⟩
instance : Car E rB := ⟨fun _ h => h⟩
instance : Car E rN := ⟨fun _ h => h⟩
instance [CarT E] [Car E r] [Car E s] : Car E (rPair r s) := ⟨fun e ⟨T, a, b, h0, h1, h2, h3⟩ => ⟨T, a, b, h0, CarT.tup e h1, Car.car e h2, Car.car e h3⟩⟩
instance [CarT E] [Car E r] [Car E s] [Car E t] : Car E (rTri r s t) := ⟨fun e ⟨T, a, b, c, h0, h1, h2, h3, h4⟩ => ⟨T, a, b, c, h0, CarT.tup e h1, Car.car e h2, Car.car e h3, Car.car e h4⟩⟩
instance [CarT E] [Car E r] : Car E (rT r) := ⟨fun e ⟨T, vs, h0, h1, h2⟩ => ⟨T, vs, h0, CarT.tup e h1, h2.car e⟩⟩
instance [Car Same r] : Car Same (rL r) := ⟨fun e ⟨a, vs, h0, h1, h2⟩ => ⟨a, vs, h0, e _ _ h1, h2.car e⟩⟩
instance [Car E r] : Car E (rO r) := ⟨fun {K H H' v x} e h => by
  cases x with
  | none => exact h
  | some y => exact Car.car (r := r) e h⟩
instance {M : Addr → Prop} [Car Same r] : Car Same (rM M r) := ⟨fun e ⟨a, vs, h0, n, h1, h2⟩ => ⟨a, vs, h0, n, e _ _ h1, h2.car e⟩⟩
instance {M : Addr → Prop} [Car (Kx M) r] : Car (Kx M) (rM M r) := ⟨fun e ⟨a, vs, h0, n, h1, h2⟩ => ⟨a, vs, h0, n, e _ _ (fun m => absurd m n) h1, h2.car e⟩⟩
instance [Car Same r] : Car Same (rQ r) := ⟨fun e ⟨a, vs, h0, h1, h2⟩ => ⟨a, vs, h0, e.sq h1, h2.car e⟩⟩
/-- a list of such values is no pen -/
class NPn {α : Type} (r : Rel α) : Prop where
  np : ∀ {K H vs xs}, AllR r K H vs xs → NoPen vs
theorem nopen_ref {vs : List V} {xs : List α} (h : ∀ a x, ¬ r K H (.ref a) x) (q : AllR r K H vs xs) : NoPen vs := fun c i x k e => by
  subst e
  obtain ⟨y, _, z⟩ := q.get (i := 0) rfl
  exact h _ _ z
theorem nopen_int {vs : List V} {xs : List α} (h : ∀ a x, ¬ r K H (.int a) x) (q : AllR r K H vs xs) : NoPen vs := fun c i x k e => by
  subst e
  obtain ⟨y, _, z⟩ := q.get (i := 1) rfl
  exact h _ _ z
instance : NPn rI := ⟨nopen_ref fun _ _ h => by cases h⟩
instance : NPn rS := ⟨nopen_ref fun _ _ h => by cases h.1⟩
instance : NPn rB := ⟨nopen_ref fun _ _ h => by cases h⟩
instance : NPn (rPair r s) := ⟨nopen_int fun _ _ ⟨_, _, _, h, _⟩ => by cases h⟩
instance : NPn (rTri r s t) := ⟨nopen_int fun _ _ ⟨_, _, _, _, h, _⟩ => by cases h⟩
instance : NPn (rT r) := ⟨nopen_int fun _ _ ⟨_, _, h, _⟩ => by cases h⟩
instance : NPn (rL r) := ⟨nopen_int fun _ _ ⟨_, _, h, _⟩ => by cases h⟩
instance : NPn (rQ r) := ⟨nopen_int fun _ _ ⟨_, _, h, _⟩ => by cases h⟩
instance [NPn r] [Car Keep r] : Car Keep (rL r) := ⟨fun e ⟨a, vs, h0, h1, h2⟩ => ⟨a, vs, h0, e.lst (NPn.np h2) h1, h2.car e⟩⟩
instance [NPn r] [Car Keep r] : Car Keep (rQ r) := ⟨fun e ⟨a, vs, h0, h1, h2⟩ => ⟨a, vs, h0, h1.elim (fun h => .inl (e.seqL (NPn.np h2) h)) fun h => .inr (e.seqT h), h2.car e⟩⟩
theorem carS [Car Same r] {v : V} {x : α} (e : Same H H') (h : r K H v x) : r K H' v x := Car.car e h
theorem carK [Car Keep r] {v : V} {x : α} (e : Keep H H') (h : r K H v x) : r K H' v x := Car.car e h
theorem carM {M : Addr → Prop} [Car (Kx M) r] {v : V} {x : α} (e : Kx M H H') (h : r K H v x) : r K H' v x := Car.car e h
theorem rL_q {v : V} {xs : List α} (h : rL r K H v xs) : rQ r K H v xs := by
  obtain ⟨a, vs, e, h1, h2⟩ := h
  exact ⟨a, vs, e, .inl (SqL.of h1), h2⟩
theorem rT_q {v : V} {xs : List α} (h : rT r K H v xs) : rQ r K H v xs := by
  obtain ⟨a, vs, e, h1, h2⟩ := h
  exact ⟨a, vs, e, .inr h1, h2⟩
theorem rM_q {M : Addr → Prop} {v : V} {xs : List α} (h : rM M r K H v xs) : rQ r K H v xs := by
  obtain ⟨a, vs, e, _, h1, h2⟩ := h
  exact ⟨a, vs, e, .inl (SqL.of h1), h2⟩
theorem rM_l {M : Addr → Prop} {v : V} {xs : List α} (h : rM M r K H v xs) : rL r K H v xs := by
  obtain ⟨a, vs, e, _, h1, h2⟩ := h
  exact ⟨a, vs, e, h1, h2⟩
/-! ints, spelled out -/
theorem rL_ints {a : Addr} {ns : List Int} (h : H a = some (.lst (ns.map V.int))) : rL rI K H (.ref a) ns := ⟨a, _, rfl, h, allI ns⟩
theorem rT_ints {a : Addr} {ns : List Int} (h : SqT K H a (ns.map V.int)) : rT rI K H (.ref a) ns := ⟨a, _, rfl, h, allI ns⟩
theorem rL.ints {a : Addr} {ns : List Int} (h : rL rI K H (.ref a) ns) : H a = some (.lst (ns.map V.int)) := by
  obtain ⟨b, vs, e, h1, h2⟩ := h
  cases e
  rw [h2.ints] at h1
  exact h1
theorem rT.ints {a : Addr} {ns : List Int} (h : rT rI K H (.ref a) ns) : SqT K H a (ns.map V.int) := by
  obtain ⟨b, vs, e, h1, h2⟩ := h
  cases e
  rw [h2.ints] at h1
  exact h1
theorem rQ.ints {a : Addr} {ns : List Int} (h : rQ rI K H (.ref a) ns) : Sq K H a (ns.map V.int) := by
  obtain ⟨b, vs, e, h1, h2⟩ := h
  cases e
  rw [h2.ints] at h1
  exact h1
theorem rL.ref {v : V} {xs : List α} (h : rL r K H v xs) : ∃ a, v = .ref a := let ⟨a, _, e, _⟩ := h; ⟨a, e⟩
theorem rT.ref {v : V} {xs : List α} (h : rT r K H v xs) : ∃ a, v = .ref a := let ⟨a, _, e, _⟩ := h; ⟨a, e⟩
theorem rQ.ref {v : V} {xs : List α} (h : rQ r K H v xs) : ∃ a, v = .ref a := let ⟨a, _, e, _⟩ := h; ⟨a, e⟩
theorem rPair.ref {v : V} {p : α × β} (h : rPair r s K H v p) : ∃ a, v = .ref a := let ⟨a, _, _, e, _⟩ := h; ⟨a, e⟩
theorem rPair_of {T : Addr} {a b : V} {x : α} {y : β} (h : SqT K H T [a, b]) (h1 : r K H a x) (h2 : s K H b y) : rPair r s K H (.ref T) (x, y) := ⟨T, a, b, rfl, h, h1, h2⟩
end
/-! ### comparing -/
class DataR {α : Type} (r : Rel α) where
  f : α → PyData
  n : Nat
  dp : ∀ {K H v x}, r K H v x → Dp K H v (f x)
  lay : ∀ {K H v x}, r K H v x → (f x).canLay0 = true
  dep : ∀ x, (f x).depth ≤ n
  eqv : ∀ x y, PyData.eqv (f x) (f y) = true ↔ x = y
section
variable {α β γ : Type} {r : Rel α} {s : Rel β} {t : Rel γ} {K : PySem.W.Frag} {H H' : Hp} {Q : VK}
instance : DataR rI where
  f := .int
  n := 0
  dp h := by cases h; exact .int _
  lay _ := by simp [PyData.canLay0]
  dep _ := by simp [PyData.depth]
  eqv x y := by simp [PyData.eqv]
instance : DataR rS where
  f := .str
  n := 0
  dp h := by cases h.1; exact .str _
  lay h := by simpa [PyData.canLay0] using h.2
  dep _ := by simp [PyData.depth]
  eqv x y := by simp [PyData.eqv]
instance : DataR rB where
  f := .bool
  n := 0
  dp h := by cases h; exact .bl _
  lay _ := by simp [PyData.canLay0]
  dep _ := by simp [PyData.depth]
  eqv x y := by simp [PyData.eqv]
instance : DataR rN where
  f := fun _ => .none
  n := 0
  dp h := by cases h; exact .non
  lay _ := by simp [PyData.canLay0]
  dep _ := by simp [PyData.depth]
  eqv x y := by simp [PyData.eqv]
theorem AllR.dp [d : DataR r] : ∀ {vs : List V} {xs : List α}, AllR r K H vs xs → DpAll K H vs (xs.map d.f)
  | [], [], _ => .nil
  | _ :: vs, _ :: xs, h => .cons (d.dp h.1) (AllR.dp (vs := vs) (xs := xs) h.2)
  | [], _ :: _, h => h.elim
  | _ :: _, [], h => h.elim
theorem AllR.lay [d : DataR r] : ∀ {vs : List V} {xs : List α}, AllR r K H vs xs → PyData.canLayAll0 (xs.map d.f) = true
  | [], [], _ => by simp [PyData.canLayAll0]
  | _ :: vs, _ :: xs, h => by
    have h1 := d.lay h.1
    have h2 := AllR.lay (vs := vs) (xs := xs) h.2
    simp [PyData.canLayAll0, h1, h2]
  | [], _ :: _, h => h.elim
  | _ :: _, [], h => h.elim
theorem dep_all [d : DataR r] : ∀ xs : List α, PyData.depthAll (xs.map d.f) ≤ d.n
  | [] => by simp [PyData.depthAll]
  | x :: xs => by
    have h1 := d.dep x
    have h2 := dep_all xs
    simp [PyData.depthAll]
    omega
theorem eqv_all [d : DataR r] : ∀ xs ys : List α, PyData.eqvAll (xs.map d.f) (ys.map d.f) = true ↔ xs = ys
  | [], [] => by simp [PyData.eqvAll]
  | x :: xs, y :: ys => by
    have h1 := d.eqv x y
    have h2 := eqv_all xs ys
    simp [PyData.eqvAll, h1, h2]
  | [], _ :: _ => by simp [PyData.eqvAll]
  | _ :: _, [] => by simp [PyData.eqvAll]
instance [d : DataR r] : DataR (rT r) where
  f xs := .tuple (xs.map d.f)
  n := d.n + 1
  dp := fun ⟨T, vs, h0, h1, h2⟩ => by cases h0; exact .tup h1 h2.dp
  lay := fun ⟨T, vs, h0, h1, h2⟩ => by simpa [PyData.canLay0] using h2.lay
  dep xs := by
    have := dep_all (r := r) xs
    simp [PyData.depth]
    omega
  eqv x y := by simpa [PyData.eqv] using eqv_all (r := r) x y
instance [d : DataR r] : DataR (rL r) where
  f xs := .list (xs.map d.f)
  n := d.n + 1
  dp := fun ⟨T, vs, h0, h1, h2⟩ => by cases h0; exact .lst (SqL.of h1) h2.dp
  lay := fun ⟨T, vs, h0, h1, h2⟩ => by simpa [PyData.canLay0] using h2.lay
  dep xs := by
    have := dep_all (r := r) xs
    simp [PyData.depth]
    omega
  eqv x y := by simpa [PyData.eqv] using eqv_all (r := r) x y
instance {M : Addr → Prop} [d : DataR r] : DataR (rM M r) where
  f xs := .list (xs.map d.f)
  n := d.n + 1
  dp h := (inferInstance : DataR (rL r)).dp (rM_l h)
  lay h := (inferInstance : DataR (rL r)).lay (rM_l h)
  dep xs := (inferInstance : DataR (rL r)).dep xs
  eqv x y := (inferInstance : DataR (rL r)).eqv x y
instance [d : DataR r] [e : DataR s] : DataR (rPair r s) where
  f p := .tuple [d.f p.1, e.f p.2]
  n := max d.n e.n + 1
  dp := fun ⟨T, a, b, h0, h1, h2, h3⟩ => by cases h0; exact .tup h1 (.cons (d.dp h2) (.cons (e.dp h3) .nil))
  lay := fun ⟨T, a, b, h0, h1, h2, h3⟩ => by simp [PyData.canLay0, PyData.canLayAll0, d.lay h2, e.lay h3]
  dep p := by
    have := d.dep p.1
    have := e.dep p.2
    simp [PyData.depth, PyData.depthAll]
    omega
  eqv x y := by
    obtain ⟨a, b⟩ := x
    obtain ⟨c, g⟩ := y
    have h1 := d.eqv a c
    have h2 := e.eqv b g
    simp [PyData.eqv, PyData.eqvAll, h1, h2]
instance [d : DataR r] [e : DataR s] [g : DataR t] : DataR (rTri r s t) where
  f p := .tuple [d.f p.1, e.f p.2.1, g.f p.2.2]
  n := max d.n (max e.n g.n) + 1
  dp := fun ⟨T, a, b, c, h0, h1, h2, h3, h4⟩ => by cases h0; exact .tup h1 (.cons (d.dp h2) (.cons (e.dp h3) (.cons (g.dp h4) .nil)))
  lay := fun ⟨T, a, b, c, h0, h1, h2, h3, h4⟩ => by simp [PyData.canLay0, PyData.canLayAll0, d.lay h2, e.lay h3, g.lay h4]
  dep p := by
    have := d.dep p.1
    have := e.dep p.2.1
    have := g.dep p.2.2
    simp [PyData.depth, PyData.depthAll]
    omega
  eqv x y := by
    obtain ⟨a, b, c⟩ := x
    obtain ⟨a', b', c'⟩ := y
    have h1 := d.eqv a a'
    have h2 := e.eqv b b'
    have h3 := g.eqv c c'
    simp [PyData.eqv, PyData.eqvAll, h1, h2, h3]
theorem shaped_of [d : DataR r] {v : V} {x : α} (h : r K H v x) (hn : d.n ≤ 64) : SeqAt.shaped (d.f x) = true := by
  have h1 := d.lay h
  have h2 := d.dep x
  simp only [SeqAt.shaped, h1, Bool.true_and, decide_eq_true_eq]
  omega
theorem eqv_dec [d : DataR r] [DecidableEq α] (x y : α) : PyData.eqv (d.f x) (d.f y) = decide (x = y) := by
  have := d.eqv x y
  by_cases h : x = y
  · rw [decide_eq_true h, this.mpr h]
  · rw [decide_eq_false h]
    cases e : PyData.eqv (d.f x) (d.f y) with
    | false => rfl
    | true => exact absurd (this.mp e) h
theorem k_eqR (r : Rel α) [d : DataR r] [DecidableEq α] {v w : V} {x y : α} (h1 : r K H v x) (h2 : r K H w y) (q : Q (.bl (decide (x = y))) H) (hn : d.n ≤ 64 := by decide) : rEqD K v w H Q :=
  ⟨_, _, d.dp h1, d.dp h2, shaped_of h1 hn, shaped_of h2 hn, by rw [eqv_dec]; exact q⟩
theorem k_neR (r : Rel α) [d : DataR r] [DecidableEq α] {v w : V} {x y : α} (h1 : r K H v x) (h2 : r K H w y) (q : Q (.bl (!decide (x = y))) H) (hn : d.n ≤ 64 := by decide) : rNeD K v w H Q :=
  ⟨_, _, d.dp h1, d.dp h2, shaped_of h1 hn, shaped_of h2 hn, by rw [eqv_dec]; exact q⟩
end
/-! ### walks -/
section
variable {α β γ : Type} {r : Rel α} {s : Rel β} {K : PySem.W.Frag}
/-- the i-th of xs -/
def YR (r : Rel α) (K : PySem.W.Frag) (xs : List α) : Nat → Hp → V → Hp → Prop := fun i H v H' => Same H H' ∧ ∃ x, xs[i]? = some x ∧ r K H' v x
/-- such a sequence at a -/
def SqR (b : Bool) (r : Rel α) (K : PySem.W.Frag) (H : Hp) (a : Addr) (xs : List α) : Prop := ∃ vs, SqB K b H a vs ∧ AllR r K H vs xs
theorem rL.sqr {a : Addr} {xs : List α} {H : Hp} (h : rL r K H (.ref a) xs) : SqR false r K H a xs := by
  obtain ⟨b, vs, e, h1, h2⟩ := h
  cases e
  exact ⟨vs, SqL.of h1, h2⟩
theorem rT.sqr {a : Addr} {xs : List α} {H : Hp} (h : rT r K H (.ref a) xs) : SqR true r K H a xs := by
  obtain ⟨b, vs, e, h1, h2⟩ := h
  cases e
  exact ⟨vs, h1, h2⟩
theorem rQ.sqr {a : Addr} {xs : List α} {H : Hp} (h : rQ r K H (.ref a) xs) : ∃ b, SqR b r K H a xs := by
  obtain ⟨a', vs, e, h1, h2⟩ := h
  cases e
  obtain ⟨b, hb⟩ := Sq.cases h1
  exact ⟨b, vs, hb, h2⟩
theorem SqR.q {b : Bool} {a : Addr} {xs : List α} {H : Hp} (h : SqR b r K H a xs) : rQ r K H (.ref a) xs := by
  obtain ⟨vs, h1, h2⟩ := h
  exact ⟨a, vs, rfl, h1.sq, h2⟩
theorem walkR_Q {b : Bool} {a : Addr} {xs : List α} : Walk (ItQ K b a) xs.length (fun H => SqR b r K H a xs) (YR r K xs) := by
  refine ⟨fun i H hi ⟨vs, h1, h2⟩ => walk_Q.goes i H (by rw [h2.length]; exact hi) h1, fun H ⟨vs, h1, h2⟩ => by rw [← h2.length]; exact walk_Q.stops H h1, fun i H x H' hi ⟨vs, h1, h2⟩ y => ?_⟩
  obtain ⟨rfl, hx⟩ := walk_Q.yields i H x H' (by rw [h2.length]; exact hi) h1 y
  exact ⟨Same.refl _, h2.get hx⟩
theorem walkR_L {a : Addr} {xs : List α} : Walk (Itl K a) xs.length (fun H => SqR false r K H a xs) (YR r K xs) := walkR_Q (b := false)
theorem walkR_T {a : Addr} {xs : List α} : Walk (Itt K a) xs.length (fun H => SqR true r K H a xs) (YR r K xs) := walkR_Q (b := true)
theorem walkR_rg {lo : Int} {n : Nat} : Walk (Itr lo n) n (fun _ => True) (YR rI K ((List.range n).map fun i : Nat => lo + (i : Int))) := by
  refine ⟨walk_range.goes, walk_range.stops, fun i H x H' hi h y => ?_⟩
  obtain ⟨rfl, rfl⟩ := walk_range.yields i H x H' hi h y
  exact ⟨Same.refl _, lo + i, by rw [List.getElem?_map, List.getElem?_range hi]; rfl, rfl⟩
def enl (k : Int) : List α → List (Int × α)
  | [] => []
  | x :: xs => (k, x) :: enl (k + 1) xs
theorem enl_length : ∀ (k : Int) (xs : List α), (enl k xs).length = xs.length
  | _, [] => rfl
  | k, x :: xs => by rw [enl, List.length_cons, List.length_cons, enl_length]
theorem enl_get : ∀ (k : Int) (xs : List α) (i : Nat), (enl k xs)[i]? = xs[i]?.map fun x => (k + (i : Int), x)
  | _, [], i => by simp [enl]
  | k, x :: xs, 0 => by simp [enl]
  | k, x :: xs, i + 1 => by
    rw [enl, List.getElem?_cons_succ, List.getElem?_cons_succ, enl_get]
    congr 1
    funext y
    rw [show k + 1 + (i : Int) = k + ((i + 1 : Nat) : Int) by omega]
theorem walkR_en [Car Same r] {b : Bool} {a : Addr} {xs : List α} : Walk (IeB K b a) xs.length (fun H => SqR b r K H a xs) (YR (rPair rI r) K (enl 0 xs)) := by
  refine ⟨fun i H hi ⟨vs, h1, h2⟩ => walk_enumB.goes i H (by rw [h2.length]; exact hi) h1, fun H ⟨vs, h1, h2⟩ => by rw [← h2.length]; exact walk_enumB.stops H h1, fun i H x H' hi ⟨vs, h1, h2⟩ y => ?_⟩
  obtain ⟨T, u, v, rfl, hT, rfl, e1, e2⟩ := walk_enumB.yields i H x H' (by rw [h2.length]; exact hi) h1 y
  cases e1
  obtain ⟨z, hz, rz⟩ := h2.get e2
  refine ⟨same_upd hT, ((i : Int), z), by rw [enl_get, hz]; show some _ = _; rw [Int.zero_add], T, _, _, rfl, .inl (.inl upd_same), rfl, carS (same_upd hT) rz⟩
theorem walkR_zip [Car Same r] [Car Same s] {b1 b2 : Bool} {a1 a2 : Addr} {xs : List α} {ys : List β} : Walk (IzB K b1 b2 a1 a2) (min xs.length ys.length) (fun H => SqR b1 r K H a1 xs ∧ SqR b2 s K H a2 ys) (YR (rPair r s) K (xs.zip ys)) := by
  refine ⟨fun i H hi ⟨⟨vs, h1, h2⟩, ⟨ws, g1, g2⟩⟩ => walk_zipB.goes i H (by rw [h2.length, g2.length]; exact hi) ⟨h1, g1⟩, fun H ⟨⟨vs, h1, h2⟩, ⟨ws, g1, g2⟩⟩ => by rw [← h2.length, ← g2.length]; exact walk_zipB.stops H ⟨h1, g1⟩, fun i H x H' hi ⟨⟨vs, h1, h2⟩, ⟨ws, g1, g2⟩⟩ y => ?_⟩
  obtain ⟨T, u, v, rfl, hT, rfl, e1, e2⟩ := walk_zipB.yields i H x H' (by rw [h2.length, g2.length]; exact hi) ⟨h1, g1⟩ y
  obtain ⟨z, hz, rz⟩ := h2.get e1
  obtain ⟨z', hz', rz'⟩ := g2.get e2
  exact ⟨same_upd hT, (z, z'), List.getElem?_zip_eq_some.mpr ⟨hz, hz'⟩, T, _, _, rfl, .inl (.inl upd_same), carS (same_upd hT) rz, carS (same_upd hT) rz'⟩
end
/-! ### loops -/
section
variable {α β γ : Type} {r : Rel α} {s : Rel β} {K : PySem.W.Frag} {J : It} {n : Nat} {G : Hp → Prop} {g : TG} {σ : L2.St} {H : Hp}
theorem forR {tb : TS} {D : Ends} {xs : List α} (wk : Walk J n G (YR r K xs)) (Pv : Nat → L2.St → Hp → Prop) (h0 : Pv 0 σ H) (hG : ∀ i σ H, i ≤ n → Pv i σ H → G H)
    (hs : ∀ i x v σ H H2, xs[i]? = some x → i < n → Pv i σ H → Same H H2 → r K H2 v x → g v σ H2 fun σ2 H3 => tb { D with nx := Pv (i + 1), ct := Pv (i + 1), bk := D.nx } σ2 H3)
    (hd : ∀ σ H, Pv n σ H → D.nx σ H) : ForTail J g tb D σ H :=
  for_it wk Pv h0 hG (fun i v σ H H' hi p y => by
    obtain ⟨s, x, hx, hr⟩ := y
    exact hs i x v σ H H' hx hi p s hr) hd
/-- one turn of a comprehension, the item v: X wants what it gives, Z that it gives nothing -/
def LcTurn (g : TG) (tt : TT) (te : TE) (vs : List Nat) (σ : L2.St) (v : V) (H : Hp) (X : VK) (Z : Hp → Prop) : Prop :=
  g v (wipe σ vs) H fun σ2 H2 => wipe σ2 vs = wipe σ vs ∧ tt σ2 H2 fun b H3 => if b = true then te σ2 H3 X else Z H3
/-- os tells what the items give -/
def Gave (P : Nat → α → Option β → Prop) (xs : List α) (ys : List β) : Prop := ∃ os : List (Option β), os.length = xs.length ∧ (∀ i x, xs[i]? = some x → ∃ o, os[i]? = some o ∧ P i x o) ∧ ys = os.filterMap id
/-- what no change of a list touches -/
class CarB {α : Type} (r : Rel α) : Prop where
  car : ∀ {K H H' D ws v x}, H D = some (.lst ws) → SameBut D H H' → r K H v x → r K H' v x
instance : CarB rI := ⟨fun _ _ h => h⟩
instance : CarB rS := ⟨fun _ _ h => h⟩
instance : CarB rB := ⟨fun _ _ h => h⟩
instance : CarB rN := ⟨fun _ _ h => h⟩
theorem AllR.carB {D : Addr} {H' : Hp} {ws : List V} [c : CarB r] (e : H D = some (.lst ws)) (b : SameBut D H H') {vs : List V} {xs : List α} (h : AllR r K H vs xs) : AllR r K H' vs xs := AllR.map (fun _ _ => CarB.car e b) h
instance {t : Rel γ} [CarB r] [CarB s] [CarB t] : CarB (rTri r s t) := ⟨fun e b ⟨T, x, y, z, h0, h1, h2, h3, h4⟩ => ⟨T, x, y, z, h0, sb_tup b e h1, CarB.car e b h2, CarB.car e b h3, CarB.car e b h4⟩⟩
instance [CarB r] [CarB s] : CarB (rPair r s) := ⟨fun e b ⟨T, x, y, h0, h1, h2, h3⟩ => ⟨T, x, y, h0, sb_tup b e h1, CarB.car e b h2, CarB.car e b h3⟩⟩
instance [CarB r] : CarB (rT r) := ⟨fun e b ⟨T, vs, h0, h1, h2⟩ => ⟨T, vs, h0, sb_tup b e h1, h2.carB e b⟩⟩
instance [CarB r] : CarB (rO r) := ⟨fun {K H H' D ws v x} e b h => by
  cases x with
  | none => exact h
  | some y => exact CarB.car (r := r) e b h⟩
theorem lcRD {s : Addr → Rel β} {E : Hp → Hp → Prop} [ev : Evo E] [∀ D, Car E (s D)] [∀ D, Car Same (s D)] {tt : TT} {te : TE} {vs : List Nat} {Q : VK} {xs : List α} (wk : Walk J n G (YR r K xs)) (P : Nat → α → Option β → Prop) (I : Nat → Hp → Prop) (hn : n = xs.length) (hm : n ≤ 100000)
    (cb : ∀ {D : Addr} {H H' : Hp} {ws : List V} {v : V} {x : β}, H D = some (.lst ws) → SameBut D H H' → s D K H v x → s D K H' v x)
    (cl : ∀ {D : Addr} {H2 H3 : Hp} {ws : List V} {ys : List β}, H D = none → E H2 H3 → AllR (s D) K H2 ws ys → H2 D = some (.lst ws) → H3 D = some (.lst ws))
    (h0 : I 0 H) (hIs : ∀ i H1 H2, I i H1 → Same H1 H2 → I i H2) (hI : ∀ D i H1 H2, H D = none → I i H1 → SameBut D H1 H2 → I i H2) (hG : ∀ H', E H H' → G H')
    (hs : ∀ i x v H2 X Z D, xs[i]? = some x → i < n → r K H2 v x → E H H2 → I i H2 → (∃ ws, H2 D = some (.lst ws)) → (∀ H3 w y, E H2 H3 → I (i + 1) H3 → s D K H3 w y → P i x (some y) → X w H3) → (∀ H3, E H2 H3 → I (i + 1) H3 → P i x none → Z H3) → LcTurn g tt te vs σ v H2 X Z)
    (q : ∀ H' D ys, E H H' → I n H' → H D = none → rL (s D) K H' (.ref D) ys → Gave P xs ys → Q (.ref D) H') : LcTail J g tt te vs σ Q H := by
  intro D H1 hD s1 e1
  refine ⟨fun i m acc H' => m = n - i ∧ i ≤ n ∧ E H H' ∧ I i H' ∧ ∃ (ys : List β) (os : List (Option β)), AllR (s D) K H' acc ys ∧ os.length = i ∧ acc.length ≤ i ∧ (∀ j x, j < i → xs[j]? = some x → ∃ o, os[j]? = some o ∧ P j x o) ∧ ys = os.filterMap id,
    ⟨n, by simp, Nat.zero_le _, ev.same s1, hIs _ _ _ h0 s1, [], [], trivial, rfl, Nat.le_refl _, fun j x h => absurd h (Nat.not_lt_zero _), rfl⟩, ?_⟩
  rintro i m acc H' ⟨rfl, hi, k, p, ys, os, ha, ho, hacc, hP, rfl⟩ eD
  have gq := hG H' k
  rcases Nat.lt_or_ge i n with lt | ge
  · refine .inr ⟨wk.goes i H' lt gq, fun acc' H'' => i + 1 ≤ n ∧ E H H'' ∧ I (i + 1) H'' ∧ ∃ (ys : List β) (os : List (Option β)), AllR (s D) K H'' acc' ys ∧ os.length = i + 1 ∧ acc'.length ≤ i + 1 ∧ (∀ j x, j < i + 1 → xs[j]? = some x → ∃ o, os[j]? = some o ∧ P j x o) ∧ ys = os.filterMap id, fun acc' H'' ⟨a, b⟩ => ⟨n - (i + 1), by omega, rfl, a, b⟩, fun v H2 y => ?_⟩
    obtain ⟨s2, x, hx, hr⟩ := wk.yields i H' v H2 lt gq y
    have k2 : E H H2 := ev.trans k (ev.same s2)
    have ha2 : AllR (s D) K H2 acc (os.filterMap id) := ha.car s2
    have eD2 : H2 D = some (.lst acc) := s2 _ _ eD
    have hnew : ∀ (o : Option β), P i x o → ∀ j y, j < i + 1 → xs[j]? = some y → ∃ o', (os ++ [o])[j]? = some o' ∧ P j y o' := fun o ho' j y hj hy => by
      rcases Nat.lt_or_ge j i with l | l
      · obtain ⟨o', e1, e2⟩ := hP j y l hy
        exact ⟨o', by rw [List.getElem?_append_left (by omega)]; exact e1, e2⟩
      · obtain rfl : j = i := by omega
        rw [hx] at hy
        cases hy
        exact ⟨o, by rw [List.getElem?_append_right (by omega), ho, Nat.sub_self]; rfl, ho'⟩
    refine hs i x v H2 _ _ D hx lt hr k2 (hIs _ _ _ p s2) ⟨_, eD2⟩ (fun H3 w y k3 p3 hw hp => ?_) (fun H3 k3 p3 hp => ?_)
    · have eD3 : H3 D = some (.lst acc) := cl hD k3 ha2 eD2
      have ha3 : AllR (s D) K H3 acc (os.filterMap id) := ha2.car k3
      refine ⟨eD3, len_big (by omega), fun H5 b5 e5 => ⟨lt, ev.but (ev.trans k2 k3) hD b5, hI D _ _ _ hD p3 b5, os.filterMap id ++ [y], os ++ [some y], (AllR.map (fun _ _ h => cb eD3 b5 h) ha3).snoc (cb eD3 b5 hw), by rw [List.length_append, ho]; rfl, by rw [List.length_append]; exact Nat.succ_le_succ hacc, hnew _ hp, by rw [List.filterMap_append]; rfl⟩⟩
    · exact ⟨cl hD k3 ha2 eD2, lt, ev.trans k2 k3, p3, os.filterMap id, os ++ [none], ha2.car k3, by rw [List.length_append, ho]; rfl, by omega, hnew _ hp, by rw [List.filterMap_append]; exact (List.append_nil _).symm⟩
  · obtain rfl : i = n := Nat.le_antisymm hi ge
    refine .inl ⟨wk.stops H' gq, q H' D _ k p hD ⟨D, acc, rfl, eD, ha⟩ ⟨os, by omega, fun j x hx => hP j x ?_ hx, rfl⟩⟩
    have := (List.getElem?_eq_some_iff.mp hx).1
    omega
theorem lcR {E : Hp → Hp → Prop} [ev : Evo E] [Car E s] [CarB s] [Car Same s] {tt : TT} {te : TE} {vs : List Nat} {Q : VK} {xs : List α} (wk : Walk J n G (YR r K xs)) (P : Nat → α → Option β → Prop) (I : Nat → Hp → Prop) (hn : n = xs.length) (hm : n ≤ 100000)
    (cl : ∀ {D : Addr} {H2 H3 : Hp} {ws : List V} {ys : List β}, H D = none → E H2 H3 → AllR s K H2 ws ys → H2 D = some (.lst ws) → H3 D = some (.lst ws))
    (h0 : I 0 H) (hIs : ∀ i H1 H2, I i H1 → Same H1 H2 → I i H2) (hI : ∀ D i H1 H2, H D = none → I i H1 → SameBut D H1 H2 → I i H2) (hG : ∀ H', E H H' → G H')
    (hs : ∀ i x v H2 X Z, xs[i]? = some x → i < n → r K H2 v x → E H H2 → I i H2 → (∀ H3 w y, E H2 H3 → I (i + 1) H3 → s K H3 w y → P i x (some y) → X w H3) → (∀ H3, E H2 H3 → I (i + 1) H3 → P i x none → Z H3) → LcTurn g tt te vs σ v H2 X Z)
    (q : ∀ H' D ys, E H H' → I n H' → H D = none → rL s K H' (.ref D) ys → Gave P xs ys → Q (.ref D) H') : LcTail J g tt te vs σ Q H :=
  lcRD (s := fun _ => s) wk P I hn hm (fun e b h => CarB.car e b h) cl h0 hIs hI hG (fun i x v H2 X Z _ hx hi hr k p _ => hs i x v H2 X Z hx hi hr k p) q
theorem Gave.map {f : α → β} {xs : List α} {ys : List β} (h : Gave (fun _ x o => o = some (f x)) xs ys) : ys = xs.map f := by
  obtain ⟨os, hl, hP, rfl⟩ := h
  have : os = xs.map fun x => some (f x) := by
    refine List.ext_getElem? fun j => ?_
    rw [List.getElem?_map]
    cases e : xs[j]? with
    | none => exact List.getElem?_eq_none (by rw [hl]; exact List.getElem?_eq_none_iff.mp e)
    | some x =>
      obtain ⟨o, h1, rfl⟩ := hP j x e
      exact h1
  rw [this, List.filterMap_map]
  exact (List.filterMap_eq_map (f := f) ▸ rfl)
theorem Gave.fmap {f : α → Option β} {xs : List α} {ys : List β} (h : Gave (fun _ x o => o = f x) xs ys) : ys = xs.filterMap f := by
  obtain ⟨os, hl, hP, rfl⟩ := h
  have : os = xs.map f := by
    refine List.ext_getElem? fun j => ?_
    rw [List.getElem?_map]
    cases e : xs[j]? with
    | none => exact List.getElem?_eq_none (by rw [hl]; exact List.getElem?_eq_none_iff.mp e)
    | some x =>
      obtain ⟨o, h1, rfl⟩ := hP j x e
      exact h1
  rw [this, List.filterMap_map]
  rfl
theorem Gave.all {R : Nat → α → β → Prop} {xs : List α} {ys : List β} (h : Gave (fun i x o => ∃ y, o = some y ∧ R i x y) xs ys) : ys.length = xs.length ∧ ∀ i x, xs[i]? = some x → ∃ y, ys[i]? = some y ∧ R i x y := by
  obtain ⟨os, hl, hP, rfl⟩ := h
  have hsome : ∀ o ∈ os, o.isSome = true := fun o ho => by
    obtain ⟨j, hj⟩ := List.getElem?_of_mem ho
    have lt := (List.getElem?_eq_some_iff.mp hj).1
    obtain ⟨x, hx⟩ : ∃ x, xs[j]? = some x := ⟨_, List.getElem?_eq_getElem (by omega)⟩
    obtain ⟨o', h1, y, rfl, _⟩ := hP j x hx
    rw [hj] at h1
    cases h1
    rfl
  have e : (os.filterMap id).map some = os := by
    clear hP hl
    induction os with
    | nil => rfl
    | cons o os ih =>
      have h1 := hsome o (List.mem_cons_self ..)
      cases o with
      | none => cases h1
      | some y =>
        rw [List.filterMap_cons_some (f := id) (b := y) rfl, List.map_cons, ih fun o ho => hsome o (List.mem_cons_of_mem _ ho)]
  refine ⟨by rw [← hl, ← e, List.length_map]; congr 1; rw [e], fun i x hx => ?_⟩
  obtain ⟨o, h1, y, rfl, h2⟩ := hP i x hx
  rw [← e, List.getElem?_map] at h1
  cases e2 : (os.filterMap id)[i]? with
  | none => rw [e2] at h1; cases h1
  | some z =>
    rw [e2] at h1
    cases h1
    exact ⟨_, rfl, h2⟩
/-- [e for x in xs if ..] without a change but new things: f tells what an item gives -/
theorem lcS [Car Same s] [CarB s] {tt : TT} {te : TE} {vs : List Nat} {Q : VK} {xs : List α} (wk : Walk J n G (YR r K xs)) (f : α → Option β) (hn : n = xs.length) (hm : n ≤ 100000) (hG : ∀ H', Same H H' → G H')
    (hs : ∀ x v H2 X Z, x ∈ xs → r K H2 v x → Same H H2 → (∀ H3 w y, Same H2 H3 → s K H3 w y → f x = some y → X w H3) → (∀ H3, Same H2 H3 → f x = none → Z H3) → LcTurn g tt te vs σ v H2 X Z)
    (q : ∀ H' D, Same H H' → H D = none → rL s K H' (.ref D) (xs.filterMap f) → Q (.ref D) H') : LcTail J g tt te vs σ Q H :=
  lcR (E := Same) wk (fun _ x o => o = f x) (fun _ _ => True) hn hm (fun _ e _ h => e _ _ h) trivial (fun _ _ _ _ _ => trivial) (fun _ _ _ _ _ _ _ => trivial) hG
    (fun i x v H2 X Z hx _ hr k _ hX hZ => hs x v H2 X Z (List.mem_of_getElem? hx) hr k (fun H3 w y k3 hw e => hX H3 w y k3 trivial hw e.symm) fun H3 k3 e => hZ H3 k3 trivial e.symm)
    fun H' D ys k _ hD hL hg => q H' D k hD (by rw [← hg.fmap]; exact hL)
/-- [e for x in xs] without a change but new things -/
theorem lcM [Car Same s] [CarB s] {te : TE} {vs : List Nat} {Q : VK} {xs : List α} (wk : Walk J n G (YR r K xs)) (f : α → β) (hn : n = xs.length) (hm : n ≤ 100000) (hG : ∀ H', Same H H' → G H')
    (hs : ∀ x v H2 X Z, x ∈ xs → r K H2 v x → Same H H2 → (∀ H3 w, Same H2 H3 → s K H3 w (f x) → X w H3) → LcTurn g tYes te vs σ v H2 X Z)
    (q : ∀ H' D, Same H H' → H D = none → rL s K H' (.ref D) (xs.map f) → Q (.ref D) H') : LcTail J g tYes te vs σ Q H :=
  lcS wk (fun x => some (f x)) hn hm hG (fun x v H2 X Z hx hr k hX _ => hs x v H2 X Z hx hr k fun H3 w k3 hw => hX H3 w _ k3 hw rfl) fun H' D k hD hL => q H' D k hD (by rw [← List.filterMap_eq_map]; exact hL)
theorem rM_car {D : Addr} {H' : Hp} {ws : List V} {v : V} {xs : List β} [CarB s] (e : H D = some (.lst ws)) (b : SameBut D H H') (h : rM (fun x => x = D) s K H v xs) : rM (fun x => x = D) s K H' v xs := by
  obtain ⟨a, us, h0, n, h1, h2⟩ := h
  exact ⟨a, us, h0, n, b _ _ n h1, h2.carB e b⟩
/-- [e for x in xs], e a new list -/
theorem lcLists [Car Same s] [CarB s] {te : TE} {vs : List Nat} {Q : VK} {xs : List α} (wk : Walk J n G (YR r K xs)) (f : α → List β) (hn : n = xs.length) (hm : n ≤ 100000) (hG : ∀ H', Same H H' → G H')
    (hs : ∀ x v H2 X Z, x ∈ xs → r K H2 v x → Same H H2 → (∀ H3 a, Same H2 H3 → H2 a = none → rL s K H3 (.ref a) (f x) → X (.ref a) H3) → LcTurn g tYes te vs σ v H2 X Z)
    (q : ∀ H' D, Same H H' → H D = none → rL (rL s) K H' (.ref D) (xs.map f) → Q (.ref D) H') : LcTail J g tYes te vs σ Q H :=
  lcRD (s := fun D => rM (fun x => x = D) s) (E := Same) wk (fun _ x o => o = some (f x)) (fun _ _ => True) hn hm rM_car (fun _ e _ h => e _ _ h) trivial (fun _ _ _ _ _ => trivial) (fun _ _ _ _ _ _ _ => trivial) hG
    (fun i x v H2 X Z D hx _ hr k _ ⟨ws, eD⟩ hX _ => hs x v H2 X Z (List.mem_of_getElem? hx) hr k fun H3 a k3 na h => by
      obtain ⟨a', us, e, h1, h2⟩ := h
      cases e
      exact hX H3 _ _ k3 trivial ⟨a, us, rfl, fun z => (by rw [z, eD] at na; cases na), h1, h2⟩ rfl)
    fun H' D ys k _ hD hL hg => q H' D k hD (by
      rw [← hg.map]
      obtain ⟨a, us, e, h1, h2⟩ := hL
      exact ⟨a, us, e, h1, AllR.map (fun _ _ h => rM_l h) h2⟩)
end
end Pl
namespace Pl
abbrev rRg : Rel (Int × Int) := rPair rI rI
end Pl

set_option Elab.async false
set_option linter.all false
set_option maxRecDepth 100000
set_option maxHeartbeats 2000000
/-! for i, x in enumerate(v, start=k) over lists and tuples -/
namespace Pl
open PySem PySem.Spec PyProof.Rows L2 RZ
def IeK (K : PySem.W.Frag) (b : Bool) (a : Addr) (k0 : Int) : It :=
  ⟨fun i H => ∃ xs : List V, SqB K b H a xs ∧ i < xs.length,
   fun i H v H' => ∃ T x, v = .ref T ∧ H T = none ∧ H' = upd H T (.tup [.int (k0 + (i : Nat)), x]) ∧ ∀ xs, SqB K b H a xs → xs[i]? = some x,
   fun i H => ∃ xs : List V, SqB K b H a xs ∧ xs.length = i⟩
theorem turn_enumK {P : Program} {w : World} {K : PySem.W.Frag} {elts : List Expr} {kk : Nat} {tpos : Pos} (b : Bool) (k0 : Int) {a e it : Addr} (n1 : e ≠ it) (n2 : a ≠ it) (n3 : a ≠ e) :
    Turn P w K (.Tuple elts kk tpos) (IeK K b a k0) [e, it] e (fun i h => (∃ old, IsEnum h e it (k0 + ((i : Nat) : Int)) old) ∧ ItB b h it a i) := by
  have nm : e ∉ [it, a] := by simp [n1, Ne.symm n3]
  refine ⟨by simp, fun i h st c hc => ?_, fun i h h' st k => ?_, ?_, ?_, fun A i s Q E st h => ?_⟩
  · obtain ⟨⟨old, he⟩, hi⟩ := st
    rcases (show c = e ∨ c = it by simpa using hc) with z | z <;> rw [z]
    · exact ⟨_, he, fun v q => nomatch q⟩
    · exact hi.obj
  · obtain ⟨⟨old, he⟩, hi⟩ := st
    exact ⟨⟨old, k e (by simp) _ he⟩, hi.at fun o q => k it (by simp) o q⟩
  · intro X hP hw hK hc i pins s σ H E I hf st hg
    subst hP hw hK
    obtain ⟨⟨old, he⟩, hit⟩ := st
    obtain ⟨xs, hq, hlt⟩ := hg
    obtain ⟨its, rv, p, hal⟩ := seqB I hq
    have hle := rv.length
    have lte : e < s.heap.objs.size := Heap.lt_size he
    have ltI : it < s.heap.objs.size := by obtain ⟨o, q, _⟩ := hit.obj; exact Heap.lt_size q
    refine wpAny_pyNext_enum_itemC (drawsB (A := X.A.in1) (show X.A.in1.handled = none from I.ok.hd hc) b it a n2 its.toArray) he ⟨hit, p⟩ (by simp; omega) n1 nm fun u h' tk hu ho hst hT hsz hk => ?_
    refine ⟨_, rfl, wpAny_letOwnedTupleGo_enum (s := { s with heap := h', toks := tk + 1 }) ho fun h2 he2 sb => ?_⟩
    have hxi : xs[i]? = some xs[i] := List.getElem?_eq_getElem hlt
    obtain ⟨u', hu', ru⟩ := rv.get hxi
    have eu : u' = u := by
      have hu2 : its[i]? = some u := by simpa using hu
      rw [hu'] at hu2
      exact Option.some.inj hu2
    subst eu
    have hT2 := (sb.2 _ (Nat.ne_of_gt lte)).trans hT
    have I1 : Inv X pins σ (upd H s.heap.objs.size (.tup [.int (k0 + (i : Nat)), xs[i]])) { s with heap := h2, toks := tk + 1 } :=
      I.turnedNew (ch := [e, it]) (fun c o hb q => (sb.2 c (fun z => hb (by simp [z]))).trans (hk c o (fun z => hb (by simp [z])) (fun z => hb (by simp [z])) q)) hf (Nat.le_refl _)
        ⟨by show 2 ≤ sizeLine; decide, [.int (k0 + i) tk, u'], .cons ⟨_, rfl⟩ (.cons ru .nil), ⟨_, hT2, rfl, _, rfl⟩⟩
    refine ⟨.ref s.heap.objs.size, _, I1, rfl, ⟨_, xs[i], rfl, I.hok.fresh (Nat.le_refl _), rfl, fun l hl => by rw [injB I hl hq]; exact hxi⟩, ⟨⟨u', ?_⟩, hst.1.at fun o q => (sb.2 it (Ne.symm n1)).trans q⟩, fun c hcm => ?_⟩
    · have ei : k0 + ((i + 1 : Nat) : Int) = k0 + (i : Int) + 1 := by omega
      rw [ei]
      exact he2
    · have lt : c < s.heap.objs.size := by
        rcases (show c = e ∨ c = it by simpa using hcm) with z | z <;> rw [z] <;> assumption
      rw [upd_ne (Nat.ne_of_lt lt)]
      exact (hf c hcm).1
  · intro X hP hw hK hc i pins s σ H E I hf st hg
    subst hP hw hK
    obtain ⟨⟨old, he⟩, hit⟩ := st
    obtain ⟨xs, hq, hlt⟩ := hg
    obtain ⟨its, rv, p, hal⟩ := seqB I hq
    have hle := rv.length
    have ei : its.toArray.size = i := by simp; omega
    obtain ⟨f0, f1, f2, f3, f4, f5⟩ := hf it (by simp)
    refine wpAny_pyNext_enum_endD (drawsB (A := X.A.in1) (show X.A.in1.handled = none from I.ok.hd hc) b it a n2 its.toArray) he ⟨by rw [ei]; exact hit, p⟩ fun h' eb => ?_
    exact ⟨rfl, I.turned (t' := s.toks) (fun c o hb q => eb c o hb q) f0 f1 f3 f4 f5⟩
  · obtain ⟨⟨_, he⟩, _⟩ := st
    exact wpAny_pyIter_enum he h
theorem callWith_typeKw {M : Model} {A : Around} {E : Value → Shared → Prop} {s : Shared} {env : Env} {pos : Pos} {T : String} {e : Expr} {rest : List Expr} {kws : List Keyword} {Q : Value → Shared → Prop}
    (h : wpAny M A (spliced (backTo pos (starEach (e :: rest) env))) (fun vs s₁ => wpAny M A (evalAll ((backToKw pos (keywordEach kws env)).map (·.2)))
      (fun kvs s₂ => wpAny M A (call (.type T) vs (((backToKw pos (keywordEach kws env)).filterMap (·.1)).zip kvs)) Q E s₂) E s₁) E s)
    (he : backTo pos (starEach (e :: rest) env) = (false, eval e env) :: backTo pos (starEach rest env) := by rfl)
    (hplain : (backTo pos (starEach (e :: rest) env)).any (·.1) = false := by rfl)
    (hall : (backToKw pos (keywordEach kws env)).all (·.1.isSome) = true := by rfl)
    (hkw : (backToKw pos (keywordEach kws env)).any (·.1.isNone) = false := by rfl) :
    wpAny M A (callWith pos (.type T) [] (backTo pos (starEach (e :: rest) env)) (backToKw pos (keywordEach kws env))) Q E s := by
  unfold callWith
  refine wpAny_bind (wpAny_holding (wpAny_mono (?_ : wpAny M A (evalArgs (.type T) true (backTo pos (starEach (e :: rest) env)) (backToKw pos (keywordEach kws env))) (fun a s₁ => wpAny M A (call (.type T) ([] ++ a.pos) a.kw) Q E s₁) E s) (fun a s₁ h₁ => wpAny_bind (wpAny_standAt ?_)) fun _ _ x => x))
  · rw [he] at h ⊢
    exact evalArgs_kwB hall h
  simp only [hplain, hkw, Bool.or_false]
  refine wpAny_bind (wpAny_pure ?_)
  exact wpAny_bind (wpAny_mono h₁ (fun r s₂ hr => wpAny_bind (wpAny_holding (wpAny_point (wpAny_pure hr)))) fun _ _ x => x)
def iEnumK (K : PySem.W.Frag) (ta tk : TA) : TI := fun σ H R => ta σ H fun vs H1 => tk σ H1 fun zs H2 => ∃ b a xs k, vs = [.ref a] ∧ zs = [.int k] ∧ -(2 ^ 62) ≤ k ∧ k < 2 ^ 62 ∧ SqB K b H2 a xs ∧ R (IeK K b a k) H2
theorem pi_enumK {X : Cx} {K : PySem.W.Frag} {e ek : Expr} {ta tk : TA} {p pos tpos kp : Pos} {elts : List Expr} {kk : Nat} (hg : Gl X "enumerate") (hm : X.mg "enumerate" = none) (ha : PA X [e] ta) (hk : PK X [⟨some (PySem.Str.ofString "start"), ek, kp⟩] tk)
    (hK : X.K = K := by rfl) (hs : backTo pos (starEach [e] X.env) = (false, eval e X.env) :: backTo pos (starEach [] X.env) := by rfl) (hpl : (backTo pos (starEach [e] X.env)).any (·.1) = false := by rfl) :
    PI X (.Tuple elts kk tpos) (.Call (.Name "enumerate" p) [e] [⟨some (PySem.Str.ofString "start"), ek, kp⟩] pos) (iEnumK K ta tk) := by
  subst hK
  refine ⟨fun pins s σ H R I h => ?_⟩
  refine wpAny_Call_Name_kw (ld_blt I hg hm boot_enumerate ?_)
  refine callWith_typeKw (thn (ha.run pos pins s σ H _ I h) fun us s1 ⟨vs, H1, I1, r1, q1⟩ => thn (hk.run pos pins s1 σ H1 _ I1 q1) fun ws s2 ⟨zs, H2, I2, r2, q2⟩ => ?_) hs hpl rfl rfl
  obtain ⟨b, a, xs, k, rfl, rfl, h0, h1, hq, q⟩ := q2
  obtain ⟨its, rv, p', hal⟩ := seqB I2 hq
  rcases r1 with _ | ⟨⟨⟩, ⟨⟩⟩
  rcases r2 with _ | ⟨⟨u, rfl⟩, ⟨⟩⟩
  refine enum_begins_start (beginsB b a its.toArray) p' (by omega) (by omega) fun h' he ho _ hk => wpAny_pyIter_enum he ?_
  refine ⟨s2.heap.objs.size + 1, [s2.heap.objs.size + 1, s2.heap.objs.size], _, _, H2, rfl, I2.kept (t' := s2.toks) hk, turn_enumK (a := a) (e := s2.heap.objs.size + 1) (it := s2.heap.objs.size) b k (Nat.succ_ne_self _) (Nat.ne_of_lt hal) (Nat.ne_of_lt (Nat.lt_succ_of_lt hal)), ⟨⟨.none, by show IsEnum _ _ _ (k + ((0 : Nat) : Int)) _; rw [show k + ((0 : Nat) : Int) = k by omega]; exact he⟩, .new ho⟩, fun c hc => ?_, q⟩
  have hle : s2.heap.objs.size ≤ c := by
    rcases (show c = s2.heap.objs.size + 1 ∨ c = s2.heap.objs.size by simpa using hc) with z | z <;> rw [z]
    · exact Nat.le_add_right _ _
    · exact Nat.le_refl _
  exact I2.fpOk hle (I2.hok.fresh hle)
theorem walk_enumK {K : PySem.W.Frag} {b : Bool} {a : Addr} {k0 : Int} {xs : List V} : Walk (IeK K b a k0) xs.length (fun H => SqB K b H a xs) (YPair (fun i => some (.int (k0 + (i : Nat)))) fun i => xs[i]?) := by
  refine ⟨fun i _ hi q => ⟨xs, q, hi⟩, fun _ q => ⟨xs, q, rfl⟩, fun i H v H' _ q y => ?_⟩
  obtain ⟨T, x, h1, h2, h3, h4⟩ := y
  exact ⟨T, _, x, h1, h2, h3, rfl, h4 xs q⟩
theorem walkR_enK {α : Type} {r : Rel α} {K : PySem.W.Frag} [Car Same r] {b : Bool} {a : Addr} {k0 : Int} {xs : List α} : Walk (IeK K b a k0) xs.length (fun H => SqR b r K H a xs) (YR (rPair rI r) K (enl k0 xs)) := by
  refine ⟨fun i H hi ⟨vs, h1, h2⟩ => walk_enumK.goes i H (by rw [h2.length]; exact hi) h1, fun H ⟨vs, h1, h2⟩ => by rw [← h2.length]; exact walk_enumK.stops H h1, fun i H x H' hi ⟨vs, h1, h2⟩ y => ?_⟩
  obtain ⟨T, u, v, rfl, hT, rfl, e1, e2⟩ := walk_enumK.yields i H x H' (by rw [h2.length]; exact hi) h1 y
  cases e1
  obtain ⟨z, hz, rz⟩ := h2.get e2
  refine ⟨same_upd hT, (k0 + (i : Int), z), by rw [enl_get, hz]; rfl, T, _, _, rfl, .inl (.inl upd_same), rfl, carS (same_upd hT) rz⟩
end Pl

set_option Elab.async false
set_option linter.all false
set_option maxRecDepth 100000
set_option maxHeartbeats 2000000
/-! max and min of a list or a tuple of ints -/
namespace RZ
open PySem PySem.Spec PySem.Calls PyProof.Rows PyProof.V
section
variable {prog : Program} {w : World} {A : Around} {E : Value → Shared → Prop} {s : Shared} {t : Addr} {xs : Array (Int × Tok)}
theorem iter_intTup {Q : Value → Shared → Prop} (ht : s.heap.IsTuple t (intItems xs))
    (h : ∀ s₂ : Shared, s₂ = { s with heap := s.heap.push { cls := .type "tuple_iterator", data := .fields #[.ref t, .int 0 0] } } →
      (s₂.heap.IsTupleIter s.heap.objs.size t 0 ∧ s₂.heap.IsTuple t (intItems xs)) → (∀ b ∈ [s.heap.objs.size, t], b < s₂.heap.objs.size) → t ≠ s.heap.objs.size → Q (.ref s.heap.objs.size) s₂) :
    wpAny (model prog w) A (pyIter (.ref t)) Q E s := by
  have hlt : t < s.heap.objs.size := by obtain ⟨_, e, _⟩ := ht; exact Heap.lt_size e
  refine wpAny_pyIter_tuple ht (h _ rfl ⟨⟨_, Heap.get?_push_size _ rfl, rfl, rfl⟩, ht.at fun o e => Heap.get?_push_of_some _ e⟩ (fun b hb => ?_) (Nat.ne_of_lt hlt))
  show b < (s.heap.push _).objs.size
  rw [Heap.size_push]
  rcases List.mem_cons.mp hb with rfl | hb
  · exact Nat.lt_succ_self _
  · rcases List.mem_cons.mp hb with rfl | hb
    · exact Nat.lt_succ_of_lt hlt
    · cases hb
theorem old_keptT {h' : Heap} (hk : ∀ b o, b ∉ [s.heap.objs.size] → (s.heap.push { cls := .type "tuple_iterator", data := .fields #[.ref t, .int 0 0] }).get? b = some o → h'.get? b = some o) :
    ∀ b o, s.heap.get? b = some o → h'.get? b = some o := fun b o e => by
  refine hk b o (fun hm => ?_) (Heap.get?_push_of_some _ e)
  rcases List.mem_cons.mp hm with e1 | hm
  · exact absurd (e1 ▸ Heap.lt_size e) (Nat.lt_irrefl _)
  · cases hm
theorem max_intTup {Q : Value → Shared → Prop} (hh : A.handled = none) (hl : s.heap.IsTuple t (intItems xs)) (hne : 0 < xs.size)
    (h : ∀ v h' tk, (intItems xs)[argBest (fun i j => decide (numAt xs i > numAt xs j)) (xs.size - 1)]? = some v → (∀ b o, s.heap.get? b = some o → h'.get? b = some o) → Q v { s with heap := h', toks := tk }) :
    wpAny (model prog w) A (call (.builtin "max") [.ref t]) Q E s := by
  refine call_max_walk (iter_intTup hl fun s₂ e st hfp hlI => ?_)
  subst e
  refine ⟨_, _, _, _, _, _, _, rfl, Walks.tuple (A := A.in1) hh _ t hlI (intItems xs), st, hfp, by simpa [intItems] using hne, CmpOf.ints_gt (numAt xs) (fun _ _ => intItems_at), fun v h' tk hP hk => ?_⟩
  exact h v h' tk (by simpa [intItems] using hP) (old_keptT hk)
theorem min_intTup {Q : Value → Shared → Prop} (hh : A.handled = none) (hl : s.heap.IsTuple t (intItems xs)) (hne : 0 < xs.size)
    (h : ∀ v h' tk, (intItems xs)[argBest (fun i j => decide (numAt xs i < numAt xs j)) (xs.size - 1)]? = some v → (∀ b o, s.heap.get? b = some o → h'.get? b = some o) → Q v { s with heap := h', toks := tk }) :
    wpAny (model prog w) A (call (.builtin "min") [.ref t]) Q E s := by
  refine call_min_walk (iter_intTup hl fun s₂ e st hfp hlI => ?_)
  subst e
  refine ⟨_, _, _, _, _, _, _, rfl, Walks.tuple (A := A.in1) hh _ t hlI (intItems xs), st, hfp, by simpa [intItems] using hne, CmpOf.ints_lt (numAt xs) (fun _ _ => intItems_at), fun v h' tk hP hk => ?_⟩
  exact h v h' tk (by simpa [intItems] using hP) (old_keptT hk)
end
end RZ
namespace Pl
open PySem PySem.Spec PyProof.Rows L2 RZ
def rMaxQ (K : PySem.W.Frag) : List V → Hp → VK → Prop := fun vs H Q => ∃ (a : Addr) (ns : List Int), vs = [V.ref a] ∧ Sq K H a (ns.map V.int) ∧ 0 < ns.length ∧ ∀ m, m ∈ ns → (∀ y, y ∈ ns → y ≤ m) → Q (.int m) H
def rMinQ (K : PySem.W.Frag) : List V → Hp → VK → Prop := fun vs H Q => ∃ (a : Addr) (ns : List Int), vs = [V.ref a] ∧ Sq K H a (ns.map V.int) ∧ 0 < ns.length ∧ ∀ m, m ∈ ns → (∀ y, y ∈ ns → m ≤ y) → Q (.int m) H
theorem call_maxQ {X : Cx} {K : PySem.W.Frag} (hc : X.calm = true) (hK : X.K = K := by rfl) : CallR X (.builtin "max") (rMaxQ K) := by
  subst hK
  intro pins s σ H vs us Q I r h
  obtain ⟨a, ns, rfl, hs, hne, q⟩ := h
  rcases hs with hs | hs
  · exact cr_max hc pins s σ H _ us Q I r ⟨a, ns, rfl, hs, hne, q⟩
  · obtain ⟨its, rv, hl, _⟩ := I.tuple hs
    rw [Vals.ref1 r]
    have hi := rv.ints
    obtain ⟨xs, e⟩ := hi.allInts.items
    have hn : numsOf (intItems xs).toList = ns := by rw [← e]; exact hi.numsOf
    rw [nums_intItems] at hn
    subst hn
    rw [e] at hl
    have hsz : 0 < xs.size := by simpa using hne
    refine max_intTup (I.ok.hd hc) hl hsz fun v h' tk hv hk => ?_
    obtain ⟨t, rfl⟩ := intItems_at hv
    obtain ⟨h1, h2⟩ := argBest_gt (numAt xs) (xs.size - 1)
    refine ⟨.int _, H, I.kept hk, ⟨_, rfl⟩, q _ ?_ fun a ha => ?_⟩
    · rw [numAt_eq]; exact PySem.getD_mem (by rw [List.length_map, Array.length_toList]; omega)
    · obtain ⟨j, hj, rfl⟩ := mem_getD ha
      rw [List.length_map, Array.length_toList] at hj
      have := h2 j (by omega)
      rw [numAt_eq, numAt_eq] at this
      rw [numAt_eq]
      omega
theorem call_minQ {X : Cx} {K : PySem.W.Frag} (hc : X.calm = true) (hK : X.K = K := by rfl) : CallR X (.builtin "min") (rMinQ K) := by
  subst hK
  intro pins s σ H vs us Q I r h
  obtain ⟨a, ns, rfl, hs, hne, q⟩ := h
  rcases hs with hs | hs
  · exact cr_min hc pins s σ H _ us Q I r ⟨a, ns, rfl, hs, hne, q⟩
  · obtain ⟨its, rv, hl, _⟩ := I.tuple hs
    rw [Vals.ref1 r]
    have hi := rv.ints
    obtain ⟨xs, e⟩ := hi.allInts.items
    have hn : numsOf (intItems xs).toList = ns := by rw [← e]; exact hi.numsOf
    rw [nums_intItems] at hn
    subst hn
    rw [e] at hl
    have hsz : 0 < xs.size := by simpa using hne
    refine min_intTup (I.ok.hd hc) hl hsz fun v h' tk hv hk => ?_
    obtain ⟨t, rfl⟩ := intItems_at hv
    obtain ⟨h1, h2⟩ := argBest_lt (numAt xs) (xs.size - 1)
    refine ⟨.int _, H, I.kept hk, ⟨_, rfl⟩, q _ ?_ fun a ha => ?_⟩
    · rw [numAt_eq]; exact PySem.getD_mem (by rw [List.length_map, Array.length_toList]; omega)
    · obtain ⟨j, hj, rfl⟩ := mem_getD ha
      rw [List.length_map, Array.length_toList] at hj
      have := h2 j (by omega)
      rw [numAt_eq, numAt_eq] at this
      rw [numAt_eq]
      omega
theorem k_maxQ {K : PySem.W.Frag} {H : Hp} {Q : VK} {a : Addr} {ns : List Int} (h : Sq K H a (ns.map V.int)) (h0 : 0 < ns.length) (q : ∀ m, m ∈ ns → (∀ y, y ∈ ns → y ≤ m) → Q (.int m) H) : rMaxQ K [.ref a] H Q := ⟨a, ns, rfl, h, h0, q⟩
theorem k_minQ {K : PySem.W.Frag} {H : Hp} {Q : VK} {a : Addr} {ns : List Int} (h : Sq K H a (ns.map V.int)) (h0 : 0 < ns.length) (q : ∀ m, m ∈ ns → (∀ y, y ∈ ns → m ≤ y) → Q (.int m) H) : rMinQ K [.ref a] H Q := ⟨a, ns, rfl, h, h0, q⟩
theorem k_sum2 {K : PySem.W.Frag} {H : Hp} {Q : VK} {a : Addr} {ns : List Int} (h : SqL K H a (ns.map V.int)) (q : Q (.int ns.sum) H) : rSum K [.ref a] H Q := ⟨a, ns, rfl, h, q⟩
end Pl

set_option Elab.async false
set_option linter.all false
set_option maxRecDepth 100000
set_option maxHeartbeats 2000000
/-! steps over related data -/
namespace Pl
open PySem PySem.Spec PyProof.Rows L2 RZ
section
variable {α β γ : Type} {r : Rel α} {s : Rel β} {t : Rel γ} {K : PySem.W.Frag} {H : Hp} {Q : VK} {σ : L2.St} {D : Ends} {E : Hp → Hp → Prop}
theorem k_lenR {v : V} {xs : List α} (h : rQ r K H v xs) (q : Q (.int (xs.length : Nat)) H) : rLenN K [v] H Q := by
  obtain ⟨a, vs, rfl, h1, h2⟩ := h
  exact ⟨a, vs, rfl, h1, by rw [h2.length]; exact q⟩
theorem k_ixLR {v : V} {xs : List α} {i : Int} (h : rL r K H v xs) (h0 : 0 ≤ i) (h1 : i < xs.length) (q : ∀ w x, xs[i.toNat]? = some x → r K H w x → Q w H) : rIxL K v (.int i) H Q := by
  obtain ⟨a, vs, rfl, e1, e2⟩ := h
  obtain ⟨n, rfl⟩ := Int.eq_ofNat_of_zero_le h0
  have hn : n < vs.length := by rw [e2.length]; omega
  obtain ⟨x, hx, hr⟩ := e2.get (i := n) (List.getElem?_eq_getElem hn)
  exact ⟨a, vs, n, vs[n], rfl, rfl, SqL.of e1, atI_nat (List.getElem?_eq_getElem hn), q _ x hx hr⟩
theorem k_ixTR {v : V} {xs : List α} {i : Int} (h : rT r K H v xs) (h0 : 0 ≤ i) (h1 : i < xs.length) (q : ∀ w x, xs[i.toNat]? = some x → r K H w x → Q w H) : rIxT K v (.int i) H Q := by
  obtain ⟨a, vs, rfl, e1, e2⟩ := h
  obtain ⟨n, rfl⟩ := Int.eq_ofNat_of_zero_le h0
  have hn : n < vs.length := by rw [e2.length]; omega
  obtain ⟨x, hx, hr⟩ := e2.get (i := n) (List.getElem?_eq_getElem hn)
  exact ⟨a, vs, n, vs[n], rfl, rfl, e1, atI_nat (List.getElem?_eq_getElem hn), q _ x hx hr⟩
/-- p[0], p[1] of a pair -/
theorem k_ixP0 {v : V} {p : α × β} (h : rPair r s K H v p) (q : ∀ w, r K H w p.1 → Q w H) : rIxT K v (.int 0) H Q := by
  obtain ⟨T, a, b, rfl, h1, h2, h3⟩ := h
  exact ⟨T, _, 0, a, rfl, rfl, h1, atI_nat (j := 0) rfl, q a h2⟩
theorem k_ixP1 {v : V} {p : α × β} (h : rPair r s K H v p) (q : ∀ w, s K H w p.2 → Q w H) : rIxT K v (.int 1) H Q := by
  obtain ⟨T, a, b, rfl, h1, h2, h3⟩ := h
  exact ⟨T, _, 1, b, rfl, rfl, h1, atI_nat (j := 1) rfl, q b h3⟩
/-- a, b = p -/
theorem g_pairR {i j : Nat} {v : V} {p : α × β} {N : L2.St → Hp → Prop} (h : rPair r s K H v p) (q : ∀ a b, r K H a p.1 → s K H b p.2 → N ((σ.set i (some a)).set j (some b)) H) : gTup K 2 (gCons (gName i) (gCons (gName j) gNil)) v σ H N := by
  obtain ⟨T, a, b, rfl, h1, h2, h3⟩ := h
  exact g_pair h1 (q a b h2 h3)
theorem g_pairI {i j : Nat} {v : V} {p : Int × Int} {N : L2.St → Hp → Prop} (h : rPair rI rI K H v p) (q : N ((σ.set i (some (.int p.1))).set j (some (.int p.2))) H) : gTup K 2 (gCons (gName i) (gCons (gName j) gNil)) v σ H N :=
  g_pairR h fun a b ha hb => by rw [show a = .int p.1 from ha, show b = .int p.2 from hb]; exact q
/-- x, (y, z) -/
theorem g_nestR {i j k : Nat} {v : V} {p : α × β × γ} {N : L2.St → Hp → Prop} (h : rPair r (rPair s t) K H v p) (q : ∀ a b c, r K H a p.1 → s K H b p.2.1 → t K H c p.2.2 → N (((σ.set i (some a)).set j (some b)).set k (some c)) H) : gTup K 2 (gCons (gName i) (gCons (gTup K 2 (gCons (gName j) (gCons (gName k) gNil))) gNil)) v σ H N := by
  obtain ⟨T, a, u, rfl, h1, h2, U, b, c, rfl, h3, h4, h5⟩ := h
  refine ⟨T, _, rfl, h1, rfl, ?_⟩
  refine ⟨_, _, rfl, ?_⟩
  refine ⟨_, _, rfl, ?_⟩
  refine ⟨U, _, rfl, h3, rfl, ?_⟩
  refine ⟨_, _, rfl, ?_⟩
  refine ⟨_, _, rfl, ?_⟩
  exact ⟨rfl, rfl, q a b c h2 h4 h5⟩
/-! loops -/
variable {g : TG} {tb : TS}
theorem k_forLR {v : V} {xs : List α} (Pv : Nat → L2.St → Hp → Prop) (h : rL r K H v xs) (h0 : Pv 0 σ H) (hG : ∀ i σ H', i ≤ xs.length → Pv i σ H' → rL r K H' v xs)
    (hs : ∀ i x w σ H H2, xs[i]? = some x → i < xs.length → Pv i σ H → Same H H2 → r K H2 w x → g w σ H2 fun σ2 H3 => tb { D with nx := Pv (i + 1), ct := Pv (i + 1), bk := D.nx } σ2 H3)
    (hd : ∀ σ H, Pv xs.length σ H → D.nx σ H) : ∃ a, v = .ref a ∧ (∃ ys, SqL K H a ys) ∧ ForTail (Itl K a) g tb D σ H := by
  obtain ⟨a, rfl⟩ := h.ref
  exact ⟨a, rfl, (let ⟨vs, x, _⟩ := h.sqr; ⟨vs, x⟩), forR walkR_L Pv h0 (fun i σ H' hi p => (hG i σ H' hi p).sqr) hs hd⟩
theorem k_forTR {v : V} {xs : List α} (Pv : Nat → L2.St → Hp → Prop) (h : rT r K H v xs) (h0 : Pv 0 σ H) (hG : ∀ i σ H', i ≤ xs.length → Pv i σ H' → rT r K H' v xs)
    (hs : ∀ i x w σ H H2, xs[i]? = some x → i < xs.length → Pv i σ H → Same H H2 → r K H2 w x → g w σ H2 fun σ2 H3 => tb { D with nx := Pv (i + 1), ct := Pv (i + 1), bk := D.nx } σ2 H3)
    (hd : ∀ σ H, Pv xs.length σ H → D.nx σ H) : ∃ a, v = .ref a ∧ (∃ ys, SqT K H a ys) ∧ ForTail (Itt K a) g tb D σ H := by
  obtain ⟨a, rfl⟩ := h.ref
  exact ⟨a, rfl, (let ⟨vs, x, _⟩ := h.sqr; ⟨vs, x⟩), forR walkR_T Pv h0 (fun i σ H' hi p => (hG i σ H' hi p).sqr) hs hd⟩
theorem k_forEn {ta : TA} (q : ta σ H fun vs H1 => ∃ b a xs, vs = [.ref a] ∧ SqB K b H1 a xs ∧ ForTail (IeB K b a) g tb D σ H1) : tFor (iEnumQ K ta) g tb D σ H := q
theorem k_forEnK {ta tk : TA} (q : ta σ H fun vs H1 => tk σ H1 fun zs H2 => ∃ b a xs k, vs = [.ref a] ∧ zs = [.int k] ∧ -(2 ^ 62) ≤ k ∧ k < 2 ^ 62 ∧ SqB K b H2 a xs ∧ ForTail (IeK K b a k) g tb D σ H2) : tFor (iEnumK K ta tk) g tb D σ H := q
theorem k_forZipQ {ta : TA} (q : ta σ H fun vs H1 => ∃ b1 b2 a1 a2 xs ys, vs = [.ref a1, .ref a2] ∧ SqB K b1 H1 a1 xs ∧ SqB K b2 H1 a2 ys ∧ ForTail (IzB K b1 b2 a1 a2) g tb D σ H1) : tFor (iZipQ K ta) g tb D σ H := q
/-- for i, x in enumerate(xs) -/
theorem k_forER [Car Same r] {v : V} {xs : List α} (Pv : Nat → L2.St → Hp → Prop) (h : rQ r K H v xs) (h0 : Pv 0 σ H) (hG : ∀ i σ H', i ≤ xs.length → Pv i σ H' → ∀ b a, v = .ref a → SqR b r K H a xs → SqR b r K H' a xs)
    (hs : ∀ i x w σ H H2, (enl 0 xs)[i]? = some x → i < xs.length → Pv i σ H → Same H H2 → rPair rI r K H2 w x → g w σ H2 fun σ2 H3 => tb { D with nx := Pv (i + 1), ct := Pv (i + 1), bk := D.nx } σ2 H3)
    (hd : ∀ σ H, Pv xs.length σ H → D.nx σ H) : ∃ b a ys, [v] = [.ref a] ∧ SqB K b H a ys ∧ ForTail (IeB K b a) g tb D σ H := by
  obtain ⟨a, rfl⟩ := h.ref
  obtain ⟨b, hb⟩ := h.sqr
  obtain ⟨ys, h1, _⟩ := id hb
  exact ⟨b, a, ys, rfl, h1, forR walkR_en Pv h0 (fun i σ H' hi p => hG i σ H' hi p b a rfl hb) hs hd⟩
theorem k_forEKR [Car Same r] {v : V} {k0 : Int} {xs : List α} (Pv : Nat → L2.St → Hp → Prop) (h : rQ r K H v xs) (hk0 : -(2 ^ 62) ≤ k0) (hk1 : k0 < 2 ^ 62) (h0 : Pv 0 σ H) (hG : ∀ i σ H', i ≤ xs.length → Pv i σ H' → ∀ b a, v = .ref a → SqR b r K H a xs → SqR b r K H' a xs)
    (hs : ∀ i x w σ H H2, (enl k0 xs)[i]? = some x → i < xs.length → Pv i σ H → Same H H2 → rPair rI r K H2 w x → g w σ H2 fun σ2 H3 => tb { D with nx := Pv (i + 1), ct := Pv (i + 1), bk := D.nx } σ2 H3)
    (hd : ∀ σ H, Pv xs.length σ H → D.nx σ H) : ∃ b a ys k, [v] = [.ref a] ∧ [V.int k0] = [.int k] ∧ -(2 ^ 62) ≤ k ∧ k < 2 ^ 62 ∧ SqB K b H a ys ∧ ForTail (IeK K b a k) g tb D σ H := by
  obtain ⟨a, rfl⟩ := h.ref
  obtain ⟨b, hb⟩ := h.sqr
  obtain ⟨ys, h1, _⟩ := id hb
  exact ⟨b, a, ys, k0, rfl, rfl, hk0, hk1, h1, forR walkR_enK Pv h0 (fun i σ H' hi p => hG i σ H' hi p b a rfl hb) hs hd⟩
theorem SqR.car {b : Bool} {a : Addr} {xs : List α} {H' : Hp} [Car Same r] (e : Same H H') (h : SqR b r K H a xs) : SqR b r K H' a xs := by
  obtain ⟨vs, h1, h2⟩ := h
  exact ⟨vs, h1.same e, h2.car e⟩
/-! comprehensions -/
variable {tt : TT} {te : TE} {vs : List Nat}
theorem k_lcML [Car Same r] [Car Same s] [CarB s] {v : V} {xs : List α} (f : α → β) (h : rL r K H v xs) (hm : xs.length ≤ 100000)
    (hs : ∀ x w H2 X Z, x ∈ xs → r K H2 w x → Same H H2 → (∀ H3 u, Same H2 H3 → s K H3 u (f x) → X u H3) → LcTurn g tYes te vs σ w H2 X Z)
    (q : ∀ H' D, Same H H' → H D = none → rL s K H' (.ref D) (xs.map f) → Q (.ref D) H') : ∃ a, v = .ref a ∧ (∃ ys, SqL K H a ys) ∧ LcTail (Itl K a) g tYes te vs σ Q H := by
  obtain ⟨a, rfl⟩ := h.ref
  exact ⟨a, rfl, (let ⟨vs, x, _⟩ := h.sqr; ⟨vs, x⟩), lcM walkR_L f rfl hm (fun H' e => h.sqr.car e) hs q⟩
theorem k_lcMT [Car Same r] [Car Same s] [CarB s] {v : V} {xs : List α} (f : α → β) (h : rT r K H v xs) (hm : xs.length ≤ 100000)
    (hs : ∀ x w H2 X Z, x ∈ xs → r K H2 w x → Same H H2 → (∀ H3 u, Same H2 H3 → s K H3 u (f x) → X u H3) → LcTurn g tYes te vs σ w H2 X Z)
    (q : ∀ H' D, Same H H' → H D = none → rL s K H' (.ref D) (xs.map f) → Q (.ref D) H') : ∃ a, v = .ref a ∧ (∃ ys, SqT K H a ys) ∧ LcTail (Itt K a) g tYes te vs σ Q H := by
  obtain ⟨a, rfl⟩ := h.ref
  exact ⟨a, rfl, (let ⟨vs, x, _⟩ := h.sqr; ⟨vs, x⟩), lcM walkR_T f rfl hm (fun H' e => h.sqr.car e) hs q⟩
theorem k_lcMQ [Car Same r] [Car Same s] [CarB s] {v : V} {xs : List α} (f : α → β) (h : rQ r K H v xs) (hm : xs.length ≤ 100000)
    (hs : ∀ x w H2 X Z, x ∈ xs → r K H2 w x → Same H H2 → (∀ H3 u, Same H2 H3 → s K H3 u (f x) → X u H3) → LcTurn g tYes te vs σ w H2 X Z)
    (q : ∀ H' D, Same H H' → H D = none → rL s K H' (.ref D) (xs.map f) → Q (.ref D) H') : ∃ b a ys, v = .ref a ∧ SqB K b H a ys ∧ LcTail (ItQ K b a) g tYes te vs σ Q H := by
  obtain ⟨a, rfl⟩ := h.ref
  obtain ⟨b, hb⟩ := h.sqr
  obtain ⟨ys, h1, _⟩ := id hb
  exact ⟨b, a, ys, rfl, h1, lcM walkR_Q f rfl hm (fun H' e => hb.car e) hs q⟩
theorem k_lcFLR [Car Same r] [Car Same s] [CarB s] {v : V} {xs : List α} (f : α → Option β) (h : rL r K H v xs) (hm : xs.length ≤ 100000)
    (hs : ∀ x w H2 X Z, x ∈ xs → r K H2 w x → Same H H2 → (∀ H3 u y, Same H2 H3 → s K H3 u y → f x = some y → X u H3) → (∀ H3, Same H2 H3 → f x = none → Z H3) → LcTurn g tt te vs σ w H2 X Z)
    (q : ∀ H' D, Same H H' → H D = none → rL s K H' (.ref D) (xs.filterMap f) → Q (.ref D) H') : ∃ a, v = .ref a ∧ (∃ ys, SqL K H a ys) ∧ LcTail (Itl K a) g tt te vs σ Q H := by
  obtain ⟨a, rfl⟩ := h.ref
  exact ⟨a, rfl, (let ⟨vs, x, _⟩ := h.sqr; ⟨vs, x⟩), lcS walkR_L f rfl hm (fun H' e => h.sqr.car e) hs q⟩
theorem k_lcFTR [Car Same r] [Car Same s] [CarB s] {v : V} {xs : List α} (f : α → Option β) (h : rT r K H v xs) (hm : xs.length ≤ 100000)
    (hs : ∀ x w H2 X Z, x ∈ xs → r K H2 w x → Same H H2 → (∀ H3 u y, Same H2 H3 → s K H3 u y → f x = some y → X u H3) → (∀ H3, Same H2 H3 → f x = none → Z H3) → LcTurn g tt te vs σ w H2 X Z)
    (q : ∀ H' D, Same H H' → H D = none → rL s K H' (.ref D) (xs.filterMap f) → Q (.ref D) H') : ∃ a, v = .ref a ∧ (∃ ys, SqT K H a ys) ∧ LcTail (Itt K a) g tt te vs σ Q H := by
  obtain ⟨a, rfl⟩ := h.ref
  exact ⟨a, rfl, (let ⟨vs, x, _⟩ := h.sqr; ⟨vs, x⟩), lcS walkR_T f rfl hm (fun H' e => h.sqr.car e) hs q⟩
theorem k_lcEn {ta : TA} (q : ta σ H fun us H1 => ∃ b a xs, us = [.ref a] ∧ SqB K b H1 a xs ∧ LcTail (IeB K b a) g tt te vs σ Q H1) : tLcN (iEnumQ K ta) g tt te vs σ H Q := q
theorem k_lcZipQ {ta : TA} (q : ta σ H fun us H1 => ∃ b1 b2 a1 a2 xs ys, us = [.ref a1, .ref a2] ∧ SqB K b1 H1 a1 xs ∧ SqB K b2 H1 a2 ys ∧ LcTail (IzB K b1 b2 a1 a2) g tt te vs σ Q H1) : tLcN (iZipQ K ta) g tt te vs σ H Q := q
theorem k_lcME [Car Same r] [Car Same s] [CarB s] {v : V} {xs : List α} (f : Int × α → β) (h : rQ r K H v xs) (hm : xs.length ≤ 100000)
    (hs : ∀ x w H2 X Z, x ∈ enl 0 xs → rPair rI r K H2 w x → Same H H2 → (∀ H3 u, Same H2 H3 → s K H3 u (f x) → X u H3) → LcTurn g tYes te vs σ w H2 X Z)
    (q : ∀ H' D, Same H H' → H D = none → rL s K H' (.ref D) ((enl 0 xs).map f) → Q (.ref D) H') : ∃ b a ys, [v] = [.ref a] ∧ SqB K b H a ys ∧ LcTail (IeB K b a) g tYes te vs σ Q H := by
  obtain ⟨a, rfl⟩ := h.ref
  obtain ⟨b, hb⟩ := h.sqr
  obtain ⟨ys, h1, _⟩ := id hb
  exact ⟨b, a, ys, rfl, h1, lcM walkR_en f (enl_length 0 xs).symm hm (fun H' e => hb.car e) hs q⟩
theorem k_lcMZ [Car Same r] [Car Same s] [Car Same t] [CarB s] {v w : V} {xs : List α} {zs : List γ} (f : α × γ → β) (h : rQ r K H v xs) (h' : rQ t K H w zs) (hm : min xs.length zs.length ≤ 100000)
    (hs : ∀ x w H2 X Z, x ∈ xs.zip zs → rPair r t K H2 w x → Same H H2 → (∀ H3 u, Same H2 H3 → s K H3 u (f x) → X u H3) → LcTurn g tYes te vs σ w H2 X Z)
    (q : ∀ H' D, Same H H' → H D = none → rL s K H' (.ref D) ((xs.zip zs).map f) → Q (.ref D) H') : ∃ b1 b2 a1 a2 ys1 ys2, [v, w] = [.ref a1, .ref a2] ∧ SqB K b1 H a1 ys1 ∧ SqB K b2 H a2 ys2 ∧ LcTail (IzB K b1 b2 a1 a2) g tYes te vs σ Q H := by
  obtain ⟨a, rfl⟩ := h.ref
  obtain ⟨a2, rfl⟩ := h'.ref
  obtain ⟨b, hb⟩ := h.sqr
  obtain ⟨b2, hb2⟩ := h'.sqr
  obtain ⟨ys, h1, _⟩ := id hb
  obtain ⟨ys2, h2, _⟩ := id hb2
  exact ⟨b, b2, a, a2, ys, ys2, rfl, h1, h2, lcM walkR_zip f List.length_zip.symm hm (fun H' e => ⟨hb.car e, hb2.car e⟩) hs q⟩
/-- [e for k in range(m)] -/
theorem k_lcMR1 [Car Same s] [CarB s] {m : Int} (f : Int → β) (h0 : 0 ≤ m) (hm : m ≤ 100000)
    (hs : ∀ x H2 X Z, 0 ≤ x → x < m → Same H H2 → (∀ H3 u, Same H2 H3 → s K H3 u (f x) → X u H3) → LcTurn g tYes te vs σ (.int x) H2 X Z)
    (q : ∀ H' D, Same H H' → H D = none → rL s K H' (.ref D) ((List.range m.toNat).map fun i : Nat => f (i : Int)) → Q (.ref D) H') : ∃ j : Int, [V.int m] = [.int j] ∧ -(2 ^ 62) ≤ j ∧ j < 2 ^ 62 ∧ LcTail (Itr 0 j.toNat) g tYes te vs σ Q H := by
  refine ⟨m, rfl, by omega, by omega, lcM (r := rI) (s := s) (K := K) walkR_rg f (by rw [List.length_map, List.length_range]) (by omega) (fun _ _ => trivial) (fun x w H2 X Z hx hr e hX => ?_) fun H' D e hD h => q H' D e hD ?_⟩
  · obtain ⟨i, hi, rfl⟩ := List.mem_map.mp hx
    rw [show w = .int _ from hr]
    have := List.mem_range.mp hi
    exact hs _ H2 X Z (by omega) (by omega) e hX
  · rw [List.map_map] at h
    have e : (f ∘ fun i : Nat => (0 : Int) + (i : Int)) = fun i : Nat => f (i : Int) := by
      funext i
      show f (0 + (i : Int)) = _
      rw [Int.zero_add]
    rw [e] at h
    exact h
/-! lists and tuples made -/
theorem k_appE [ev : Evo E] {H0 : Hp} {l : Addr} {xs : List α} {w : V} {x : α} [CarB r] (k : E H0 H) (hD : H0 l = none) (h : rL r K H (.ref l) xs) (hw : r K H w x) (hl : xs.length ≤ 1000000)
    (q : ∀ H', E H0 H' → SameBut l H H' → rL r K H' (.ref l) (xs ++ [x]) → Q .non H') : rAppendN (.ref l) [w] H Q := by
  obtain ⟨a, vs, e, e1, e2⟩ := h
  cases e
  refine ⟨l, vs, w, rfl, rfl, e1, len_big (by rw [e2.length]; exact hl), fun H' b e' => q H' (ev.but k hD b) b ⟨l, _, rfl, e', ?_⟩⟩
  exact (e2.carB e1 b).snoc (CarB.car e1 b hw)
theorem k_tyR {v : V} {xs : List α} {R : Prop} (h : rL r K H v xs) (q : R) : tyV K "list" v H ∧ R := by
  obtain ⟨a, vs, rfl, e1, _⟩ := h
  exact tyL e1 q
theorem k_catLR [Car Same r] {v w : V} {xs ys : List α} (h1 : rL r K H v xs) (h2 : rL r K H w ys) (hl : xs.length + ys.length ≤ 1000000) (q : ∀ H' p, Same H H' → H p = none → rL r K H' (.ref p) (xs ++ ys) → Q (.ref p) H') : rCatN v w H Q := by
  obtain ⟨a, vs, rfl, e1, e2⟩ := h1
  obtain ⟨b, ws, rfl, e3, e4⟩ := h2
  exact ⟨a, b, vs, ws, rfl, rfl, e1, e3, by rw [e2.length, e4.length]; exact small hl, fun H' p s n e => q H' p s n ⟨p, _, rfl, e, (e2.car s).append (e4.car s)⟩⟩
theorem k_catTR [Car Same r] {v w : V} {xs ys : List α} (h1 : rT r K H v xs) (h2 : rT r K H w ys) (hl : xs.length + ys.length ≤ 1000000) (q : ∀ H' p, Same H H' → rT r K H' (.ref p) (xs ++ ys) → Q (.ref p) H') : rCatT2 K v w H Q := by
  obtain ⟨a, vs, rfl, e1, e2⟩ := h1
  obtain ⟨b, ws, rfl, e3, e4⟩ := h2
  exact ⟨a, b, vs, ws, rfl, rfl, e1, e3, by rw [e2.length, e4.length]; exact small hl, fun H' p s e => q H' p s ⟨p, _, rfl, e, (e2.car s).append (e4.car s)⟩⟩
theorem k_tupleR [Car Same r] {v : V} {xs : List α} (h : rQ r K H v xs) (q : ∀ H' p, Same H H' → rT r K H' (.ref p) xs → Q (.ref p) H') : rTupleN K [v] H Q := by
  obtain ⟨a, vs, rfl, e1, e2⟩ := h
  exact ⟨a, vs, rfl, e1, fun H' p s e => q H' p s ⟨p, _, rfl, e, e2.car s⟩⟩
theorem k_listR [Car Same r] {v : V} {xs : List α} (h : rQ r K H v xs) (q : ∀ H' p, Same H H' → H p = none → rL r K H' (.ref p) xs → Q (.ref p) H') : rListN K [v] H Q := by
  obtain ⟨a, vs, rfl, e1, e2⟩ := h
  exact ⟨a, vs, rfl, e1, fun H' p s n e => q H' p s n ⟨p, _, rfl, e, e2.car s⟩⟩
theorem k_newP [Car Same r] [Car Same s] {a b : V} {x : α} {y : β} (h1 : r K H a x) (h2 : s K H b y) (q : ∀ H' p, Same H H' → rPair r s K H' (.ref p) (x, y) → Q (.ref p) H') : [a, b].length ≤ sizeLine ∧ NewT K [a, b] H Q :=
  k_newT (by show 2 ≤ 100000; omega) fun H' p e h => q H' p e ⟨p, a, b, rfl, h, carS e h1, carS e h2⟩
theorem k_newP3 [Car Same r] [Car Same s] [Car Same t] {a b c : V} {x : α} {y : β} {z : γ} (h1 : r K H a x) (h2 : s K H b y) (h3 : t K H c z) (q : ∀ H' p, Same H H' → rTri r s t K H' (.ref p) (x, y, z) → Q (.ref p) H') : [a, b, c].length ≤ sizeLine ∧ NewT K [a, b, c] H Q :=
  k_newT (by show 3 ≤ 100000; omega) fun H' p e h => q H' p e ⟨p, a, b, c, rfl, h, carS e h1, carS e h2, carS e h3⟩
theorem k_newTR [Car Same r] {vs : List V} {xs : List α} (h : AllR r K H vs xs) (hl : xs.length ≤ 100000) (q : ∀ H' p, Same H H' → rT r K H' (.ref p) xs → Q (.ref p) H') : vs.length ≤ sizeLine ∧ NewT K vs H Q :=
  k_newT (by rw [h.length]; exact hl) fun H' p e h' => q H' p e ⟨p, vs, rfl, h', h.car e⟩
theorem k_newLR [Car Same r] {vs : List V} {xs : List α} (h : AllR r K H vs xs) (hl : xs.length ≤ 100000) (q : ∀ H' p, Same H H' → H p = none → rL r K H' (.ref p) xs → Q (.ref p) H') : vs.length ≤ sizeLine ∧ NewL vs H Q :=
  k_newL (by rw [h.length]; exact hl) fun H' p e n h' => q H' p e n ⟨p, vs, rfl, h', h.car e⟩
/-- a slice -/
def cutA (xs : List α) (lo hi : Option Int) : List α := (xs.drop (HT.sIx xs.length 0 lo)).take (HT.sIx xs.length xs.length hi - HT.sIx xs.length 0 lo)
theorem AllR.cut {vs : List V} {xs : List α} (h : AllR r K H vs xs) (lo hi : Option Int) : AllR r K H (cutV vs lo hi) (cutA xs lo hi) := by
  unfold cutV cutA
  rw [h.length]
  exact (h.drop _).take _
theorem k_slTR [Car Same r] {v : V} {xs : List α} {lo hi : Option Int} (h : rT r K H v xs) (q : ∀ H' p, Same H H' → rT r K H' (.ref p) (cutA xs lo hi) → Q (.ref p) H') : rSlT2 K v lo hi H Q := by
  obtain ⟨a, vs, rfl, e1, e2⟩ := h
  exact ⟨a, vs, rfl, e1, fun H' p s e => q H' p s ⟨p, _, rfl, e, (e2.car s).cut lo hi⟩⟩
theorem k_slLR [Car Same r] {v : V} {xs : List α} {lo hi : Option Int} (h : rL r K H v xs) (q : ∀ H' p, Same H H' → H p = none → rL r K H' (.ref p) (cutA xs lo hi) → Q (.ref p) H') : rSlL2 K v lo hi H Q := by
  obtain ⟨a, vs, rfl, e1, e2⟩ := h
  exact ⟨a, vs, rfl, SqL.of e1, fun H' p s n e => q H' p s n ⟨p, _, rfl, e, (e2.car s).cut lo hi⟩⟩
theorem cutA_from (xs : List α) (k : Nat) : cutA xs (some (k : Int)) none = xs.drop k := by
  unfold cutA
  rw [HT.sIx_nat, HT.sIx_none, List.take_of_length_le (by rw [List.length_drop]; exact Nat.le_refl _)]
  rcases Nat.le_total k xs.length with h | h
  · rw [Nat.min_eq_left h]
  · rw [Nat.min_eq_right h, List.drop_length, List.drop_eq_nil_of_le h]
theorem cutA_to (xs : List α) (k : Nat) : cutA xs none (some (k : Int)) = xs.take k := by
  unfold cutA
  rw [HT.sIx_nat, HT.sIx_none, List.drop_zero, Nat.sub_zero]
  rcases Nat.le_total k xs.length with h | h
  · rw [Nat.min_eq_left h]
  · rw [Nat.min_eq_right h, List.take_length, List.take_of_length_le h]
theorem cutA_mid (xs : List α) (j k : Nat) : cutA xs (some (j : Int)) (some (k : Int)) = (xs.drop j).take (k - j) := by
  unfold cutA
  rw [HT.sIx_nat, HT.sIx_nat]
  rcases Nat.le_total j xs.length with h | h
  · rw [Nat.min_eq_left h]
    rcases Nat.le_total k xs.length with h2 | h2
    · rw [Nat.min_eq_left h2]
    · rw [Nat.min_eq_right h2, List.take_of_length_le (by rw [List.length_drop]; exact Nat.le_refl _), List.take_of_length_le (by rw [List.length_drop]; omega)]
  · rw [Nat.min_eq_right h, List.drop_length, List.drop_eq_nil_of_le h, List.take_nil, List.take_nil]
end
/-! ### with a pen -/
section
variable {α β : Type} {r : Rel α} {s : Rel β} {K : PySem.W.Frag} {H : Hp} {Q : VK} {σ : L2.St} {g : TG} {tt : TT} {te : TE} {vs : List Nat} {J : It} {n : Nat} {G : Hp → Prop}
/-- [e for x in xs], e draws: R tells of what an item gives -/
theorem lcK [Car Keep s] [Car Same s] [CarB s] [NPn s] {xs : List α} {pen c : Addr} (wk : Walk J n G (YR r K xs)) (n0 st : Nat) (R : Nat → α → β → Prop) (p : Pn H pen c n0) (hn : n = xs.length) (hm : n ≤ 100000) (hG : ∀ H', Keep H H' → G H')
    (hs : ∀ i x v H2 X Z, xs[i]? = some x → i < n → r K H2 v x → Keep H H2 → Pn H2 pen c (n0 + st * i) → (∀ H3 w y, Keep H2 H3 → Pn H3 pen c (n0 + st * (i + 1)) → s K H3 w y → R i x y → X w H3) → LcTurn g tYes te vs σ v H2 X Z)
    (q : ∀ H' D ys, Keep H H' → Pn H' pen c (n0 + st * n) → H D = none → rL s K H' (.ref D) ys → ys.length = xs.length → (∀ i x, xs[i]? = some x → ∃ y, ys[i]? = some y ∧ R i x y) → Q (.ref D) H') : LcTail J g tYes te vs σ Q H :=
  lcR (E := Keep) wk (fun i x o => ∃ y, o = some y ∧ R i x y) (fun i H' => Pn H' pen c (n0 + st * i)) hn hm (fun _ k ha e => k.lst (NPn.np ha) e) p (fun _ _ _ h e => h.same e) (fun D i H1 H2 hD h b => Pn.but p hD b h) hG
    (fun i x v H2 X Z hx hi hr k p2 hX _ => hs i x v H2 X Z hx hi hr k p2 fun H3 w y k3 p3 hw hy => hX H3 w y k3 p3 hw ⟨y, rfl, hy⟩)
    fun H' D ys k p' hD hL hg => q H' D ys k p' hD hL hg.all.1 hg.all.2
theorem k_lcKR1 [Car Keep s] [Car Same s] [CarB s] [NPn s] {pen c : Addr} {m : Int} (n0 st : Nat) (R : β → Prop) (p : Pn H pen c n0) (h0 : 0 ≤ m) (hm : m ≤ 100000)
    (hs : ∀ (i : Nat) H2 X Z, (i : Int) < m → Keep H H2 → Pn H2 pen c (n0 + st * i) → (∀ H3 w y, Keep H2 H3 → Pn H3 pen c (n0 + st * (i + 1)) → s K H3 w y → R y → X w H3) → LcTurn g tYes te vs σ (.int (0 + (i : Int))) H2 X Z)
    (q : ∀ H' D ys, Keep H H' → Pn H' pen c (n0 + st * m.toNat) → H D = none → rL s K H' (.ref D) ys → ys.length = m.toNat → (∀ y ∈ ys, R y) → Q (.ref D) H') : ∃ j : Int, [V.int m] = [.int j] ∧ -(2 ^ 62) ≤ j ∧ j < 2 ^ 62 ∧ LcTail (Itr 0 j.toNat) g tYes te vs σ Q H := by
  refine ⟨m, rfl, by omega, by omega, lcK (r := rI) (s := s) (K := K) walkR_rg n0 st (fun _ _ y => R y) p (by rw [List.length_map, List.length_range]) (by omega) (fun _ _ => trivial) (fun i x v H2 X Z hx hi hr k p2 hX => ?_) fun H' D ys k p' hD hL hl hall => ?_⟩
  · rw [List.getElem?_map, List.getElem?_range hi] at hx
    cases hx
    rw [show v = .int _ from hr]
    exact hs i H2 X Z (by omega) k p2 hX
  · rw [List.length_map, List.length_range] at hl
    refine q H' D ys k p' hD hL hl fun y hy => ?_
    obtain ⟨i, hi⟩ := List.getElem?_of_mem hy
    have lt := (List.getElem?_eq_some_iff.mp hi).1
    obtain ⟨y', h1, h2⟩ := hall i _ (by rw [List.getElem?_map, List.getElem?_range (by omega)]; rfl)
    rw [hi] at h1
    cases h1
    exact h2
end
end Pl
namespace Pl
open PySem PySem.Spec PyProof.Rows L2 RZ
section
variable {α β γ : Type} {r : Rel α} {s : Rel β} {K : PySem.W.Frag} {H : Hp} {Q : VK} {σ : L2.St}
theorem k_tupZip {ta : TA} (q : ta σ H fun vs H1 => ∃ a b xs ys, vs = [.ref a, .ref b] ∧ SqL K H1 a xs ∧ SqL K H1 b ys ∧ min xs.length ys.length ≤ 100000 ∧
  ∀ H' S ts, Same H1 H' → H1 S = none → SqT K H' S (ts.map V.ref) → List.length ts = min xs.length ys.length → (∀ (i : Nat) (T : Addr), ts[i]? = some T → ∃ x y, xs[i]? = some x ∧ ys[i]? = some y ∧ SqT K H' T [x, y]) → Q (.ref S) H') : tTupZip K ta σ H Q := q
theorem k_tupZipR [Car Same r] [Car Same s] {v w : V} {xs : List α} {ys : List β} (h1 : rL r K H v xs) (h2 : rL s K H w ys) (hm : min xs.length ys.length ≤ 100000) (q : ∀ H' S, Same H H' → rT (rPair r s) K H' (.ref S) (xs.zip ys) → Q (.ref S) H') :
    ∃ a b us ws, [v, w] = [.ref a, .ref b] ∧ SqL K H a us ∧ SqL K H b ws ∧ min us.length ws.length ≤ 100000 ∧
      ∀ H' S ts, Same H H' → H S = none → SqT K H' S (ts.map V.ref) → List.length ts = min us.length ws.length → (∀ (i : Nat) (T : Addr), ts[i]? = some T → ∃ x y, us[i]? = some x ∧ ws[i]? = some y ∧ SqT K H' T [x, y]) → Q (.ref S) H' := by
  obtain ⟨a, us, rfl, e1, e2⟩ := h1
  obtain ⟨b, ws, rfl, e3, e4⟩ := h2
  refine ⟨a, b, us, ws, rfl, SqL.of e1, SqL.of e3, by rw [e2.length, e4.length]; exact hm, fun H' S ts s' _ hS hl hT => q H' S s' ⟨S, _, rfl, hS, allR_of ?_ fun i v hv => ?_⟩⟩
  · rw [List.length_map, hl, e2.length, e4.length, List.length_zip]
  · rw [List.getElem?_map] at hv
    cases e : ts[i]? with
    | none => rw [e] at hv; cases hv
    | some T =>
      rw [e] at hv
      cases hv
      obtain ⟨x, y, hx, hy, hp⟩ := hT i T e
      obtain ⟨x', hx', rx⟩ := e2.get hx
      obtain ⟨y', hy', ry⟩ := e4.get hy
      exact ⟨(x', y'), List.getElem?_zip_eq_some.mpr ⟨hx', hy'⟩, T, x, y, rfl, hp, carS s' rx, carS s' ry⟩
end
theorem same_none {H H' : Hp} {a : Addr} (s : Same H H') (h : H' a = none) : H a = none := by
  cases e : H a with
  | none => rfl
  | some o =>
    rw [s _ _ e] at h
    cases h
end Pl
namespace Pl
open PySem PySem.Spec PyProof.Rows L2 RZ
section
variable {α β γ : Type} {r : Rel α} {s : Rel β} {K : PySem.W.Frag} {H : Hp} {Q : VK} {σ : L2.St} {D : Ends} {g : TG} {tb : TS}
theorem k_forERT [Car Same r] {v : V} {xs : List α} (Pv : Nat → L2.St → Hp → Prop) (h : rT r K H v xs) (h0 : Pv 0 σ H) (hG : ∀ i σ H', i ≤ xs.length → Pv i σ H' → rT r K H' v xs)
    (hs : ∀ i x w σ H H2, (enl 0 xs)[i]? = some x → i < xs.length → Pv i σ H → Same H H2 → rPair rI r K H2 w x → g w σ H2 fun σ2 H3 => tb { D with nx := Pv (i + 1), ct := Pv (i + 1), bk := D.nx } σ2 H3)
    (hd : ∀ σ H, Pv xs.length σ H → D.nx σ H) : ∃ b a ys, [v] = [.ref a] ∧ SqB K b H a ys ∧ ForTail (IeB K b a) g tb D σ H := by
  obtain ⟨a, rfl⟩ := h.ref
  obtain ⟨ys, h1, _⟩ := h.sqr
  exact ⟨true, a, ys, rfl, h1, forR walkR_en Pv h0 (fun i σ H' hi p => (hG i σ H' hi p).sqr) hs hd⟩
theorem k_forERL [Car Same r] {v : V} {xs : List α} (Pv : Nat → L2.St → Hp → Prop) (h : rL r K H v xs) (h0 : Pv 0 σ H) (hG : ∀ i σ H', i ≤ xs.length → Pv i σ H' → rL r K H' v xs)
    (hs : ∀ i x w σ H H2, (enl 0 xs)[i]? = some x → i < xs.length → Pv i σ H → Same H H2 → rPair rI r K H2 w x → g w σ H2 fun σ2 H3 => tb { D with nx := Pv (i + 1), ct := Pv (i + 1), bk := D.nx } σ2 H3)
    (hd : ∀ σ H, Pv xs.length σ H → D.nx σ H) : ∃ b a ys, [v] = [.ref a] ∧ SqB K b H a ys ∧ ForTail (IeB K b a) g tb D σ H := by
  obtain ⟨a, rfl⟩ := h.ref
  obtain ⟨ys, h1, _⟩ := h.sqr
  exact ⟨false, a, ys, rfl, h1, forR walkR_en Pv h0 (fun i σ H' hi p => (hG i σ H' hi p).sqr) hs hd⟩
theorem k_forEKRT [Car Same r] {v : V} {k0 : Int} {xs : List α} (Pv : Nat → L2.St → Hp → Prop) (h : rT r K H v xs) (hk0 : -(2 ^ 62) ≤ k0) (hk1 : k0 < 2 ^ 62) (h0 : Pv 0 σ H) (hG : ∀ i σ H', i ≤ xs.length → Pv i σ H' → rT r K H' v xs)
    (hs : ∀ i x w σ H H2, (enl k0 xs)[i]? = some x → i < xs.length → Pv i σ H → Same H H2 → rPair rI r K H2 w x → g w σ H2 fun σ2 H3 => tb { D with nx := Pv (i + 1), ct := Pv (i + 1), bk := D.nx } σ2 H3)
    (hd : ∀ σ H, Pv xs.length σ H → D.nx σ H) : ∃ b a ys k, [v] = [.ref a] ∧ [V.int k0] = [.int k] ∧ -(2 ^ 62) ≤ k ∧ k < 2 ^ 62 ∧ SqB K b H a ys ∧ ForTail (IeK K b a k) g tb D σ H := by
  obtain ⟨a, rfl⟩ := h.ref
  obtain ⟨ys, h1, _⟩ := h.sqr
  exact ⟨true, a, ys, k0, rfl, rfl, hk0, hk1, h1, forR walkR_enK Pv h0 (fun i σ H' hi p => (hG i σ H' hi p).sqr) hs hd⟩
end
end Pl
namespace Pl
theorem enl_at {α : Type} {k : Int} {xs : List α} {i : Nat} {p : Int × α} (h : (enl k xs)[i]? = some p) : p.1 = k + (i : Int) ∧ xs[i]? = some p.2 := by
  rw [enl_get] at h
  cases e : xs[i]? with
  | none => rw [e] at h; cases h
  | some y => rw [e] at h; cases h; exact ⟨rfl, rfl⟩
theorem getD_at {α : Type} {l : List α} {i : Nat} {x d : α} (h : l[i]? = some x) : l.getD i d = x := by rw [List.getD_eq_getElem?_getD, h]; rfl
theorem at_getD {α : Type} {l : List α} {i : Nat} (d : α) (h : i < l.length) : l[i]? = some (l.getD i d) := by rw [List.getD_eq_getElem?_getD, List.getElem?_eq_getElem h]; rfl
end Pl
namespace Pl
open PySem PySem.Spec PyProof.Rows L2 RZ
section
variable {α β : Type} {r : Rel α} {s : Rel β} {K : PySem.W.Frag} {H : Hp} {Q : VK} {σ : L2.St} {g : TG} {te : TE} {vs : List Nat}
/-- lo, .., hi -/
def upto (lo hi : Int) : List Int := (List.range (hi + 1 - lo).toNat).map fun i : Nat => lo + (i : Int)
theorem upto_mem {lo hi x : Int} : x ∈ upto lo hi ↔ lo ≤ x ∧ x ≤ hi := by
  unfold upto
  rw [List.mem_map]
  constructor
  · rintro ⟨i, hi', rfl⟩
    have := List.mem_range.mp hi'
    omega
  · intro h
    exact ⟨(x - lo).toNat, List.mem_range.mpr (by omega), by omega⟩
theorem upto_len (lo hi : Int) : (upto lo hi).length = (hi + 1 - lo).toNat := by rw [upto, List.length_map, List.length_range]
/-- [e for k in range(i, j)] -/
theorem k_lcMR2 [Car Same s] [CarB s] {i j : Int} (f : Int → β) (h0 : -(2 ^ 61) ≤ i ∧ i < 2 ^ 61 ∧ -(2 ^ 61) ≤ j ∧ j < 2 ^ 61) (hm : j - i ≤ 100000)
    (hs : ∀ x H2 X Z, i ≤ x → x < j → Same H H2 → (∀ H3 u, Same H2 H3 → s K H3 u (f x) → X u H3) → LcTurn g tYes te vs σ (.int x) H2 X Z)
    (q : ∀ H' D, Same H H' → H D = none → rL s K H' (.ref D) ((upto i (j - 1)).map f) → Q (.ref D) H') : ∃ i' j' : Int, [V.int i, V.int j] = [.int i', .int j'] ∧ (-(2 ^ 62) ≤ i' ∧ i' < 2 ^ 62 ∧ -(2 ^ 62) ≤ j' ∧ j' < 2 ^ 62) ∧ LcTail (Itr i' (j' - i').toNat) g tYes te vs σ Q H := by
  refine ⟨i, j, rfl, by omega, lcM (r := rI) (s := s) (K := K) walkR_rg f (by rw [List.length_map, List.length_range]) (by omega) (fun _ _ => trivial) (fun x w H2 X Z hx hr e hX => ?_) fun H' D e hD h => q H' D e hD ?_⟩
  · obtain ⟨k, hk, rfl⟩ := List.mem_map.mp hx
    rw [show w = .int _ from hr]
    have := List.mem_range.mp hk
    exact hs _ H2 X Z (by omega) (by omega) e hX
  · unfold upto
    rw [show j - 1 + 1 - i = j - i by omega]
    exact h
end
end Pl
namespace Pl
theorem unref {a : PySem.Addr} {R : PySem.Addr → Prop} (h : ∃ b, L2.V.ref a = L2.V.ref b ∧ R b) : R a := by
  obtain ⟨b, e, q⟩ := h
  cases e
  exact q
end Pl
namespace Pl
open PySem PySem.Spec PyProof.Rows L2 RZ
section
variable {K : PySem.W.Frag} {H : Hp} {Q : VK}
theorem rT.ints' {v : V} {ns : List Int} (h : rT rI K H v ns) : ∃ a, v = .ref a ∧ SqT K H a (ns.map V.int) := by
  obtain ⟨a, rfl⟩ := h.ref
  exact ⟨a, rfl, h.ints⟩
/-- x[i], a tuple of ints -/
theorem k_ixTV {v : V} {xs : List Int} {i : Int} (h : rT rI K H v xs) (h0 : 0 ≤ i) (h1 : i < xs.length) (q : Q (.int (xs.getD i.toNat 0)) H) : rIxT K v (.int i) H Q := by
  obtain ⟨a, rfl⟩ := h.ref
  exact k_ixTi h.ints h0 h1 q
theorem k_ixLV {v : V} {xs : List Int} {i : Int} (h : rL rI K H v xs) (h0 : 0 ≤ i) (h1 : i < xs.length) (q : Q (.int (xs.getD i.toNat 0)) H) : rIxL K v (.int i) H Q := by
  obtain ⟨a, rfl⟩ := h.ref
  exact k_ixL (SqL.of h.ints) h0 h1 q
/-- [z] * n -/
theorem k_repI {a : Addr} {z : Int} {n : Int} (h : H a = some (.lst [.int z])) (h0 : -(2 ^ 63) ≤ n) (h1 : n ≤ 1000000) (q : ∀ H' l, Same H H' → H l = none → H' l = some (.lst ((List.replicate n.toNat z).map V.int)) → Q (.ref l) H') : rRepN (.ref a) (.int n) H Q :=
  ⟨a, n, [.int z], rfl, rfl, h, h0, by omega, by show 1 * n.toNat ≤ sizeLine; rw [Nat.one_mul]; exact small (by omega), fun H' l s n' e => q H' l s n' (by
    rw [e]
    congr 2
    induction n.toNat with
    | zero => rfl
    | succ m ih => rw [List.replicate_succ, List.flatten_cons, ih, List.replicate_succ]; rfl)⟩
end
end Pl

set_option Elab.async false
set_option linter.all false
set_option maxRecDepth 100000
set_option maxHeartbeats 2000000
namespace Pl
open PySem PySem.Spec PyProof.Rows L2 RZ
section
variable {α β γ : Type} {r : Rel α} {s : Rel β} {t : Rel γ} {K : PySem.W.Frag} {H : Hp} {Q : VK} {σ : L2.St} {D : Ends} {g : TG} {tb : TS} {tt : TT} {te : TE} {vs : List Nat} {a : Addr} {xs : List α}
theorem k_forLRr (Pv : Nat → L2.St → Hp → Prop) (h : rL r K H (.ref a) xs) (h0 : Pv 0 σ H) (hG : ∀ i σ H', i ≤ xs.length → Pv i σ H' → rL r K H' (.ref a) xs)
    (hs : ∀ i x w σ H H2, xs[i]? = some x → i < xs.length → Pv i σ H → Same H H2 → r K H2 w x → g w σ H2 fun σ2 H3 => tb { D with nx := Pv (i + 1), ct := Pv (i + 1), bk := D.nx } σ2 H3)
    (hd : ∀ σ H, Pv xs.length σ H → D.nx σ H) : (∃ ys, SqL K H a ys) ∧ ForTail (Itl K a) g tb D σ H := unref (k_forLR Pv h h0 hG hs hd)
theorem k_forTRr (Pv : Nat → L2.St → Hp → Prop) (h : rT r K H (.ref a) xs) (h0 : Pv 0 σ H) (hG : ∀ i σ H', i ≤ xs.length → Pv i σ H' → rT r K H' (.ref a) xs)
    (hs : ∀ i x w σ H H2, xs[i]? = some x → i < xs.length → Pv i σ H → Same H H2 → r K H2 w x → g w σ H2 fun σ2 H3 => tb { D with nx := Pv (i + 1), ct := Pv (i + 1), bk := D.nx } σ2 H3)
    (hd : ∀ σ H, Pv xs.length σ H → D.nx σ H) : (∃ ys, SqT K H a ys) ∧ ForTail (Itt K a) g tb D σ H := unref (k_forTR Pv h h0 hG hs hd)
theorem k_lcMLr [Car Same r] [Car Same s] [CarB s] (f : α → β) (h : rL r K H (.ref a) xs) (hm : xs.length ≤ 100000)
    (hs : ∀ x w H2 X Z, x ∈ xs → r K H2 w x → Same H H2 → (∀ H3 u, Same H2 H3 → s K H3 u (f x) → X u H3) → LcTurn g tYes te vs σ w H2 X Z)
    (q : ∀ H' D, Same H H' → H D = none → rL s K H' (.ref D) (xs.map f) → Q (.ref D) H') : (∃ ys, SqL K H a ys) ∧ LcTail (Itl K a) g tYes te vs σ Q H := unref (k_lcML f h hm hs q)
theorem k_lcMTr [Car Same r] [Car Same s] [CarB s] (f : α → β) (h : rT r K H (.ref a) xs) (hm : xs.length ≤ 100000)
    (hs : ∀ x w H2 X Z, x ∈ xs → r K H2 w x → Same H H2 → (∀ H3 u, Same H2 H3 → s K H3 u (f x) → X u H3) → LcTurn g tYes te vs σ w H2 X Z)
    (q : ∀ H' D, Same H H' → H D = none → rL s K H' (.ref D) (xs.map f) → Q (.ref D) H') : (∃ ys, SqT K H a ys) ∧ LcTail (Itt K a) g tYes te vs σ Q H := unref (k_lcMT f h hm hs q)
theorem k_lcFLr [Car Same r] [Car Same s] [CarB s] (f : α → Option β) (h : rL r K H (.ref a) xs) (hm : xs.length ≤ 100000)
    (hs : ∀ x w H2 X Z, x ∈ xs → r K H2 w x → Same H H2 → (∀ H3 u y, Same H2 H3 → s K H3 u y → f x = some y → X u H3) → (∀ H3, Same H2 H3 → f x = none → Z H3) → LcTurn g tt te vs σ w H2 X Z)
    (q : ∀ H' D, Same H H' → H D = none → rL s K H' (.ref D) (xs.filterMap f) → Q (.ref D) H') : (∃ ys, SqL K H a ys) ∧ LcTail (Itl K a) g tt te vs σ Q H := unref (k_lcFLR f h hm hs q)
theorem k_lcFTr [Car Same r] [Car Same s] [CarB s] (f : α → Option β) (h : rT r K H (.ref a) xs) (hm : xs.length ≤ 100000)
    (hs : ∀ x w H2 X Z, x ∈ xs → r K H2 w x → Same H H2 → (∀ H3 u y, Same H2 H3 → s K H3 u y → f x = some y → X u H3) → (∀ H3, Same H2 H3 → f x = none → Z H3) → LcTurn g tt te vs σ w H2 X Z)
    (q : ∀ H' D, Same H H' → H D = none → rL s K H' (.ref D) (xs.filterMap f) → Q (.ref D) H') : (∃ ys, SqT K H a ys) ∧ LcTail (Itt K a) g tt te vs σ Q H := unref (k_lcFTR f h hm hs q)
/-- [e for x in xs], e a new list -/
theorem k_lcLLr [Car Same r] [Car Same s] [CarB s] (f : α → List β) (h : rL r K H (.ref a) xs) (hm : xs.length ≤ 100000)
    (hs : ∀ x v H2 X Z, x ∈ xs → r K H2 v x → Same H H2 → (∀ H3 a, Same H2 H3 → H2 a = none → rL s K H3 (.ref a) (f x) → X (.ref a) H3) → LcTurn g tYes te vs σ v H2 X Z)
    (q : ∀ H' D, Same H H' → H D = none → rL (rL s) K H' (.ref D) (xs.map f) → Q (.ref D) H') : (∃ ys, SqL K H a ys) ∧ LcTail (Itl K a) g tYes te vs σ Q H := by
  obtain ⟨us, h1, h2⟩ := h.sqr
  exact ⟨⟨us, h1⟩, lcLists walkR_L f rfl hm (fun H' e => h.sqr.car e) hs q⟩
theorem g_tri {i j k : Nat} {T : Addr} {x y z : V} {N : L2.St → Hp → Prop} (h : SqT K H T [x, y, z]) (q : N (((σ.set i (some x)).set j (some y)).set k (some z)) H) : gTup K 3 (gCons (gName i) (gCons (gName j) (gCons (gName k) gNil))) (.ref T) σ H N := by
  refine ⟨T, _, rfl, h, rfl, _, _, rfl, ?_⟩
  refine ⟨_, _, rfl, ?_⟩
  refine ⟨_, _, rfl, ?_⟩
  exact ⟨rfl, q⟩
theorem g_triR {i j k : Nat} {v : V} {p : α × β × γ} {N : L2.St → Hp → Prop} (h : rTri r s t K H v p) (q : ∀ a b c, r K H a p.1 → s K H b p.2.1 → t K H c p.2.2 → N (((σ.set i (some a)).set j (some b)).set k (some c)) H) : gTup K 3 (gCons (gName i) (gCons (gName j) (gCons (gName k) gNil))) v σ H N := by
  obtain ⟨T, a, b, c, rfl, h1, h2, h3, h4⟩ := h
  exact g_tri h1 (q a b c h2 h3 h4)
end
end Pl

set_option Elab.async false
set_option linter.all false
set_option maxRecDepth 100000
set_option maxHeartbeats 2000000
/-! the ends of the lanes of a product of two rows with ranges -/
namespace Pl
def mn4 (p q : Int × Int) : Int := min (min (p.1 * q.1) (p.1 * q.2)) (min (p.2 * q.1) (p.2 * q.2))
def mx4 (p q : Int × Int) : Int := max (max (p.1 * q.1) (p.1 * q.2)) (max (p.2 * q.1) (p.2 * q.2))
theorem mul_between {x a b y : Int} (h1 : a ≤ y) (h2 : y ≤ b) : min (x * a) (x * b) ≤ x * y ∧ x * y ≤ max (x * a) (x * b) := by
  rcases Int.le_total 0 x with h | h
  · have := Int.mul_le_mul_of_nonneg_left h1 h
    have := Int.mul_le_mul_of_nonneg_left h2 h
    omega
  · have := Int.mul_le_mul_of_nonpos_left h h1
    have := Int.mul_le_mul_of_nonpos_left h h2
    omega
theorem corner_le {p q : Int × Int} {x y : Int} (h1 : p.1 ≤ x) (h2 : x ≤ p.2) (h3 : q.1 ≤ y) (h4 : y ≤ q.2) : mn4 p q ≤ x * y ∧ x * y ≤ mx4 p q := by
  have a := mul_between (x := x) h3 h4
  have b := mul_between (x := q.1) h1 h2
  have c := mul_between (x := q.2) h1 h2
  rw [Int.mul_comm q.1, Int.mul_comm q.1, Int.mul_comm q.1] at b
  rw [Int.mul_comm q.2, Int.mul_comm q.2, Int.mul_comm q.2] at c
  unfold mn4 mx4
  omega
/-- the sum of f over the pairs of lanes that make lane n, the first t lanes of ps -/
def convF (f : Int × Int → Int × Int → Int) (ps qs : List (Int × Int)) : Nat → Nat → Int
  | 0, _ => 0
  | t + 1, n => convF f ps qs t n + if t ≤ n ∧ n - t < qs.length then f (ps.getD t (0, 0)) (qs.getD (n - t) (0, 0)) else 0
/-- a row in the ranges -/
def InBox (ps : List (Int × Int)) (xs : List Int) : Prop := xs.length = ps.length ∧ ∀ i, i < ps.length → (ps.getD i (0, 0)).1 ≤ xs.getD i 0 ∧ xs.getD i 0 ≤ (ps.getD i (0, 0)).2
def Valid (ps : List (Int × Int)) : Prop := ∀ p ∈ ps, p.1 ≤ p.2
theorem Valid.get {ps : List (Int × Int)} (h : Valid ps) {i : Nat} (hi : i < ps.length) : (ps.getD i (0, 0)).1 ≤ (ps.getD i (0, 0)).2 := by
  rw [List.getD_eq_getElem?_getD, List.getElem?_eq_getElem hi]
  exact h _ (List.getElem_mem hi)
theorem conv_between {ps qs : List (Int × Int)} {xs ys : List Int} (hx : InBox ps xs) (hy : InBox qs ys) (n : Nat) : ∀ t, t ≤ ps.length → convF mn4 ps qs t n ≤ conv xs ys t n ∧ conv xs ys t n ≤ convF mx4 ps qs t n
  | 0, _ => ⟨Int.le_refl _, Int.le_refl _⟩
  | t + 1, ht => by
    have ih := conv_between hx hy n t (by omega)
    show _ ≤ conv xs ys t n + xs.getD t 0 * shl ys t n ∧ conv xs ys t n + xs.getD t 0 * shl ys t n ≤ _
    unfold convF
    by_cases h : t ≤ n ∧ n - t < qs.length
    · rw [if_pos h, if_pos h]
      have e : shl ys t n = ys.getD (n - t) 0 := if_pos h.1
      rw [e]
      have a := hx.2 t (by omega)
      have b := hy.2 (n - t) h.2
      have := corner_le a.1 a.2 b.1 b.2
      omega
    · rw [if_neg h, if_neg h, shl_out (by have := hy.1; omega), Int.mul_zero]
      omega
/-- the ends that give the least (the greatest) product -/
def best (f : Int × Int → Int × Int → Int) (p q : Int × Int) : Int × Int :=
  if p.1 * q.1 = f p q then (p.1, q.1) else if p.1 * q.2 = f p q then (p.1, q.2) else if p.2 * q.1 = f p q then (p.2, q.1) else (p.2, q.2)
theorem best_mul {f : Int × Int → Int × Int → Int} (p q : Int × Int) (h : f p q = p.1 * q.1 ∨ f p q = p.1 * q.2 ∨ f p q = p.2 * q.1 ∨ f p q = p.2 * q.2) : (best f p q).1 * (best f p q).2 = f p q := by
  unfold best
  split
  · assumption
  · split
    · assumption
    · split
      · assumption
      · rcases h with h | h | h | h
        · omega
        · omega
        · omega
        · exact h.symm
theorem mn4_is (p q : Int × Int) : mn4 p q = p.1 * q.1 ∨ mn4 p q = p.1 * q.2 ∨ mn4 p q = p.2 * q.1 ∨ mn4 p q = p.2 * q.2 := by
  unfold mn4
  omega
theorem mx4_is (p q : Int × Int) : mx4 p q = p.1 * q.1 ∨ mx4 p q = p.1 * q.2 ∨ mx4 p q = p.2 * q.1 ∨ mx4 p q = p.2 * q.2 := by
  unfold mx4
  omega
theorem best_in (f : Int × Int → Int × Int → Int) {p q : Int × Int} (hp : p.1 ≤ p.2) (hq : q.1 ≤ q.2) : p.1 ≤ (best f p q).1 ∧ (best f p q).1 ≤ p.2 ∧ q.1 ≤ (best f p q).2 ∧ (best f p q).2 ≤ q.2 := by
  unfold best
  split
  · exact ⟨Int.le_refl _, hp, Int.le_refl _, hq⟩
  · split
    · exact ⟨Int.le_refl _, hp, hq, Int.le_refl _⟩
    · split
      · exact ⟨hp, Int.le_refl _, Int.le_refl _, hq⟩
      · exact ⟨hp, Int.le_refl _, hq, Int.le_refl _⟩
/-- the rows that make lane n the least (the greatest) -/
def bestX (f : Int × Int → Int × Int → Int) (ps qs : List (Int × Int)) (n : Nat) : List Int := (List.range ps.length).map fun j => if j ≤ n ∧ n - j < qs.length then (best f (ps.getD j (0, 0)) (qs.getD (n - j) (0, 0))).1 else (ps.getD j (0, 0)).1
def bestY (f : Int × Int → Int × Int → Int) (ps qs : List (Int × Int)) (n : Nat) : List Int := (List.range qs.length).map fun k => if k ≤ n ∧ n - k < ps.length then (best f (ps.getD (n - k) (0, 0)) (qs.getD k (0, 0))).2 else (qs.getD k (0, 0)).1
theorem range_getD (m : Nat) (f : Nat → Int) {i : Nat} (h : i < m) : ((List.range m).map f).getD i 0 = f i := by
  rw [List.getD_eq_getElem?_getD, List.getElem?_map, List.getElem?_range h]
  rfl
theorem bestX_in (f : Int × Int → Int × Int → Int) {ps qs : List (Int × Int)} (hp : Valid ps) (hq : Valid qs) (n : Nat) : InBox ps (bestX f ps qs n) := by
  refine ⟨by rw [bestX, List.length_map, List.length_range], fun i hi => ?_⟩
  unfold bestX
  rw [range_getD _ _ hi]
  split
  · rename_i h
    have := best_in f (hp.get hi) (hq.get h.2)
    omega
  · have := hp.get hi
    omega
theorem bestY_in (f : Int × Int → Int × Int → Int) {ps qs : List (Int × Int)} (hp : Valid ps) (hq : Valid qs) (n : Nat) : InBox qs (bestY f ps qs n) := by
  refine ⟨by rw [bestY, List.length_map, List.length_range], fun i hi => ?_⟩
  unfold bestY
  rw [range_getD _ _ hi]
  split
  · rename_i h
    have := best_in f (hp.get h.2) (hq.get hi)
    omega
  · have := hq.get hi
    omega
theorem conv_best {f : Int × Int → Int × Int → Int} (hf : ∀ p q, (best f p q).1 * (best f p q).2 = f p q) (ps qs : List (Int × Int)) (n : Nat) : ∀ t, t ≤ ps.length → conv (bestX f ps qs n) (bestY f ps qs n) t n = convF f ps qs t n
  | 0, _ => rfl
  | t + 1, ht => by
    have ih := conv_best hf ps qs n t (by omega)
    show conv _ _ t n + (bestX f ps qs n).getD t 0 * shl (bestY f ps qs n) t n = _
    unfold convF
    rw [ih]
    congr 1
    by_cases h : t ≤ n ∧ n - t < qs.length
    · rw [if_pos h]
      have e : shl (bestY f ps qs n) t n = (bestY f ps qs n).getD (n - t) 0 := if_pos h.1
      rw [e, bestX, bestY, range_getD _ _ (by omega), range_getD _ _ h.2, if_pos h, if_pos (by omega), show n - (n - t) = t by omega, hf]
    · rw [if_neg h, shl_out (by rw [bestY, List.length_map, List.length_range]; omega), Int.mul_zero]
theorem conv_mn {ps qs : List (Int × Int)} (n : Nat) : conv (bestX mn4 ps qs n) (bestY mn4 ps qs n) ps.length n = convF mn4 ps qs ps.length n := conv_best (fun p q => best_mul p q (mn4_is p q)) ps qs n _ (Nat.le_refl _)
theorem conv_mx {ps qs : List (Int × Int)} (n : Nat) : conv (bestX mx4 ps qs n) (bestY mx4 ps qs n) ps.length n = convF mx4 ps qs ps.length n := conv_best (fun p q => best_mul p q (mx4_is p q)) ps qs n _ (Nat.le_refl _)
/-- the ends of each lane -/
def endsL (ps qs : List (Int × Int)) : List (Int × Int) := if ps = [] ∨ qs = [] then [] else (List.range (ps.length + qs.length - 1)).map fun n => (convF mn4 ps qs ps.length n, convF mx4 ps qs ps.length n)
theorem conv_comm (xs ys : List Int) (n : Nat) : conv xs ys xs.length n = conv ys xs ys.length n := by
  rw [← mulP_get, ← mulP_get]
  exact val_inj (fun w => by rw [val_mulP, val_mulP, Int.mul_comm]) n
theorem convF_comm {ps qs : List (Int × Int)} (hp : Valid ps) (hq : Valid qs) (n : Nat) : convF mn4 ps qs ps.length n = convF mn4 qs ps qs.length n ∧ convF mx4 ps qs ps.length n = convF mx4 qs ps qs.length n := by
  have step : ∀ {ps qs : List (Int × Int)}, Valid ps → Valid qs → convF mn4 ps qs ps.length n ≤ convF mn4 qs ps qs.length n ∧ convF mx4 qs ps qs.length n ≤ convF mx4 ps qs ps.length n := fun {ps qs} hp hq => by
    have a := conv_mn (ps := qs) (qs := ps) n
    have b := conv_mx (ps := qs) (qs := ps) n
    have ha := conv_between (bestY_in mn4 hq hp n) (bestX_in mn4 hq hp n) n ps.length (Nat.le_refl _)
    have hb := conv_between (bestY_in mx4 hq hp n) (bestX_in mx4 hq hp n) n ps.length (Nat.le_refl _)
    have la := (bestY_in mn4 hq hp n).1
    have la' := (bestX_in mn4 hq hp n).1
    have lb := (bestY_in mx4 hq hp n).1
    have lb' := (bestX_in mx4 hq hp n).1
    have ea := conv_comm (bestX mn4 qs ps n) (bestY mn4 qs ps n) n
    have eb := conv_comm (bestX mx4 qs ps n) (bestY mx4 qs ps n) n
    rw [la, la'] at ea
    rw [lb, lb'] at eb
    omega
  have := step hp hq
  have := step hq hp
  omega
theorem endsL_comm {ps qs : List (Int × Int)} (hp : Valid ps) (hq : Valid qs) : endsL qs ps = endsL ps qs := by
  unfold endsL
  by_cases h : ps = [] ∨ qs = []
  · rw [if_pos h, if_pos (h.elim .inr .inl)]
  · rw [if_neg h, if_neg (fun z => h (z.elim .inr .inl)), Nat.add_comm qs.length]
    refine List.map_congr_left fun n _ => ?_
    have := convF_comm hp hq n
    rw [this.1, this.2]
/-- from 0 up: the products of the ends -/
theorem convF_pos {ps qs : List (Int × Int)} (hp : Valid ps) (hq : Valid qs) (h1 : ∀ p ∈ ps, 0 ≤ p.1) (h2 : ∀ p ∈ qs, 0 ≤ p.1) (n : Nat) : ∀ t, t ≤ ps.length → convF mn4 ps qs t n = conv (ps.map (·.1)) (qs.map (·.1)) t n ∧ convF mx4 ps qs t n = conv (ps.map (·.2)) (qs.map (·.2)) t n
  | 0, _ => ⟨rfl, rfl⟩
  | t + 1, ht => by
    have ih := convF_pos hp hq h1 h2 n t (by omega)
    show convF mn4 ps qs t n + _ = conv _ _ t n + (ps.map (·.1)).getD t 0 * shl (qs.map (·.1)) t n ∧ convF mx4 ps qs t n + _ = conv _ _ t n + (ps.map (·.2)).getD t 0 * shl (qs.map (·.2)) t n
    rw [ih.1, ih.2]
    have gm : ∀ (l : List (Int × Int)) (f : Int × Int → Int) (i : Nat), i < l.length → (l.map f).getD i 0 = f (l.getD i (0, 0)) := fun l f i h => by
      rw [List.getD_eq_getElem?_getD, List.getD_eq_getElem?_getD, List.getElem?_map, List.getElem?_eq_getElem h]
      rfl
    by_cases h : t ≤ n ∧ n - t < qs.length
    · rw [if_pos h, if_pos h]
      have e : ∀ l : List Int, shl l t n = l.getD (n - t) 0 := fun l => if_pos h.1
      rw [e, e, gm ps _ t (by omega), gm ps _ t (by omega), gm qs _ _ h.2, gm qs _ _ h.2]
      have a1 : 0 ≤ (ps.getD t (0, 0)).1 := by
        rw [List.getD_eq_getElem?_getD, List.getElem?_eq_getElem (show t < ps.length by omega)]
        exact h1 _ (List.getElem_mem _)
      have a2 := hp.get (show t < ps.length by omega)
      have b1 : 0 ≤ (qs.getD (n - t) (0, 0)).1 := by
        rw [List.getD_eq_getElem?_getD, List.getElem?_eq_getElem h.2]
        exact h2 _ (List.getElem_mem _)
      have b2 := hq.get h.2
      generalize ps.getD t (0, 0) = p at *
      generalize qs.getD (n - t) (0, 0) = q at *
      have c1 := Int.mul_le_mul_of_nonneg_left b2 a1
      have c2 := Int.mul_le_mul_of_nonneg_left b2 (Int.le_trans a1 a2)
      have c3 := Int.mul_le_mul_of_nonneg_right a2 b1
      have c4 := Int.mul_le_mul_of_nonneg_right a2 (Int.le_trans b1 b2)
      unfold mn4 mx4
      constructor <;> congr 1 <;> omega
    · rw [if_neg h, if_neg h]
      have e : ∀ f : Int × Int → Int, shl (qs.map f) t n = 0 := fun f => shl_out (by rw [List.length_map]; omega)
      rw [e, e, Int.mul_zero, Int.mul_zero]
      exact ⟨rfl, rfl⟩
end Pl

set_option Elab.async false
set_option linter.all false
set_option maxRecDepth 100000
set_option maxHeartbeats 2000000
namespace Pl
open PySem PySem.Spec PyProof.Rows L2 RZ
/-! ### x == y of an instance with an own __eq__, y of many kinds -/
/-- y stands for no instance of C: a tuple, a list, an int, None, a text, a bool -/
inductive Oth (K : PySem.W.Frag) (H : Hp) : V → Prop
  | tup {b : Addr} {xs : List V} (h : SqT K H b xs) : Oth K H (.ref b)
  | lst {b : Addr} {xs : List V} (h : H b = some (.lst xs)) : Oth K H (.ref b)
  | int (i : Int) : Oth K H (.int i)
  | non : Oth K H .non
  | str (x : Str) : Oth K H (.str x)
def othB (K : PySem.W.Frag) (C : Addr) : Bool :=
  (PySem.W.subIn K (.type "tuple") (.ref C) == some false) && ((PySem.W.subIn K (.type "list") (.ref C) == some false) && ((PySem.W.subIn K (.type "int") (.ref C) == some false) && ((PySem.W.subIn K (.type "NoneType") (.ref C) == some false) && (PySem.W.subIn K (.type "str") (.ref C) == some false))))
def okitB (K : PySem.W.Frag) (C : Addr) : Bool :=
  (PySem.W.kitOne K (.type "tuple") (.ref C) == some false) && ((PySem.W.kitOne K (.type "list") (.ref C) == some false) && ((PySem.W.kitOne K (.type "int") (.ref C) == some false) && ((PySem.W.kitOne K (.type "NoneType") (.ref C) == some false) && (PySem.W.kitOne K (.type "str") (.ref C) == some false))))
def rOwnEqG (K : PySem.W.Frag) (C : Addr) (sp : Sp) (E : XK) : R2 := fun x y H Q => ∃ a dx fs, x = .ref a ∧ H a = some (.ins C dx fs) ∧ ((∃ b dy gs, y = .ref b ∧ H b = some (.ins C dy gs)) ∨ Oth K H y) ∧ sp [x, y] H Q E
theorem op_ownEqG {X : Cx} {CX : CXT} {K : PySem.W.Frag} {C f : Addr} {fd : FuncData} {ps : List Str} {sp : Sp} {E : XK} {k : Nat} (hm : Meth X.K C "__eq__" f) (ht : othB X.K C = true)
    (F : FnOk X.prog X.w X.K X.mg X.base CX k f fd ps sp) (hr : Room k X.A) (hb : Binds X.K fd ps []) (hx : Passes CX X E) (hK : X.K = K := by rfl) : OpR X (compareOp .Eq) (rOwnEqG K C sp E) := by
  subst hK
  simp only [othB, Bool.and_eq_true, beq_iff_eq] at ht
  obtain ⟨h1, h2, h3, h4, h5⟩ := ht
  intro pins s σ H x' y v u Q I rx ry h
  obtain ⟨a, dx, fs, rfl, ha, hb', hsp⟩ := h
  cases rx
  obtain ⟨mA, J, _⟩ := ins_get I.hok ha
  obtain ⟨od, J, _⟩ := J.look
  obtain ⟨m, hF⟩ := I.fr
  rcases hb' with ⟨b, dy, gs, rfl, hb'⟩ | hb'
  · cases ry
    have run := wpAny_mono (run_fn (us := [.ref a, .ref b]) (vs := [.ref a, .ref b]) F hr hb .nil hx I (.cons rfl (.cons rfl .nil)) hsp) (fun v s' q => cmpBack_of q) fun _ _ z => z
    obtain ⟨mB, J', _⟩ := ins_get I.hok hb'
    obtain ⟨od', J', _⟩ := J'.look
    exact PySem.W.cmp_K (op := .Eq) (tb := .ref C) hr.units0 hF I.ok.mod.kin J J'.type (by simp [PySem.W.notFirst]) hm.at_ hm.fn run
  · have run := wpAny_mono (run_fn (us := [.ref a, u]) (vs := [.ref a, y]) F hr hb .nil hx I (.cons rfl (.cons ry .nil)) hsp) (fun v s' q => cmpBack_of q) fun _ _ z => z
    cases hb' with
    | tup hT =>
      cases ry
      obtain ⟨its, rv, ⟨o, e, hc, _⟩, _⟩ := I.tuple hT
      exact PySem.W.cmp_K (op := .Eq) (tb := .type "tuple") hr.units0 hF I.ok.mod.kin J (fun A Q E s' kp q => wpAny_typeOf_ref (kp _ _ e) (by rw [hc]; exact q)) (by simp [PySem.W.notFirst, h1]) hm.at_ hm.fn run
    | lst hL =>
      cases ry
      obtain ⟨its, rv, ⟨o, n, e, hc, _⟩, _⟩ := I.list (SqL.of hL)
      exact PySem.W.cmp_K (op := .Eq) (tb := .type "list") hr.units0 hF I.ok.mod.kin J (fun A Q E s' kp q => wpAny_typeOf_ref (kp _ _ e) (by rw [hc]; exact q)) (by simp [PySem.W.notFirst, h2]) hm.at_ hm.fn run
    | int i =>
      obtain ⟨t, rfl⟩ := ry
      exact PySem.W.cmp_K (op := .Eq) (tb := .type "int") hr.units0 hF I.ok.mod.kin J (fun A Q E s' kp q => by
        rw [show typeOf (.int i t) = pure (.type "int") from rfl]
        exact wpAny_pure q) (by simp [PySem.W.notFirst, h3]) hm.at_ hm.fn run
    | non =>
      cases ry
      exact PySem.W.cmp_K (op := .Eq) (tb := .type "NoneType") hr.units0 hF I.ok.mod.kin J (fun A Q E s' kp q => by
        rw [show typeOf .none = pure (.type "NoneType") from rfl]
        exact wpAny_pure q) (by simp [PySem.W.notFirst, h4]) hm.at_ hm.fn run
    | str z =>
      obtain ⟨t, rfl⟩ := ry
      exact PySem.W.cmp_K (op := .Eq) (tb := .type "str") hr.units0 hF I.ok.mod.kin J (fun A Q E s' kp q => by
        rw [show typeOf (.str z t) = pure (.type "str") from rfl]
        exact wpAny_pure q) (by simp [PySem.W.notFirst, h5]) hm.at_ hm.fn run
/-! ### isinstance(x, C), x an instance of C or of another kind -/
def rIsiG (K : PySem.W.Frag) (C : Addr) : List V → Hp → VK → Prop := fun xs H Q => ∃ y, xs = [y, .ref C] ∧ ((∃ b dy gs, y = .ref b ∧ H b = some (.ins C dy gs) ∧ Q (.bl true) H) ∨ (Oth K H y ∧ Q (.bl false) H))
theorem call_isiG {X : Cx} {K : PySem.W.Frag} {C : Addr} (cl : Cls K C) (ib : insB K C = true) (kb : okitB K C = true) (hK : X.K = K := by rfl) : CallR X (.builtin "isinstance") (rIsiG K C) := by
  subst hK
  simp only [insB, Bool.and_eq_true, decide_eq_true_eq, beq_iff_eq] at ib
  simp only [okitB, Bool.and_eq_true, beq_iff_eq] at kb
  obtain ⟨h1, h2, h3, h4, h5, h6⟩ := ib
  obtain ⟨k1, k2, k3, k4, k5⟩ := kb
  intro pins s σ H xs us Q I r h
  obtain ⟨y, rfl, h⟩ := h
  rcases h with ⟨b, dy, gs, rfl, hb, q⟩ | ⟨ho, q⟩
  · exact call_isi pins s σ H _ us Q I r ⟨_, _, _, _, true, rfl, .own C, .base (.ins hb cl h1 h2 h3 h4), h5, q⟩
  · cases ho with
    | @tup b ys hT =>
      have ty : TyX X.K H (.ref b) (.type "tuple") := by
        rcases hT with (h | ⟨o, h⟩) | ⟨o, its, n, hk, hc, _⟩
        · exact .base (.tup h)
        · exact .fTuple h
        · exact .kTuple hk hc
      exact call_isi pins s σ H _ us Q I r ⟨_, _, _, _, false, rfl, .own C, ty, k1, q⟩
    | lst hL => exact call_isi pins s σ H _ us Q I r ⟨_, _, _, _, false, rfl, .own C, .base (.lst hL), k2, q⟩
    | int i => exact call_isi pins s σ H _ us Q I r ⟨_, _, _, _, false, rfl, .own C, .base (.int i), k3, q⟩
    | non => exact call_isi pins s σ H _ us Q I r ⟨_, _, _, _, false, rfl, .own C, .base .non, k4, q⟩
    | str z => exact call_isi pins s σ H _ us Q I r ⟨_, _, _, _, false, rfl, .own C, .base (.str z), k5, q⟩
end Pl

set_option Elab.async false
set_option linter.all false
set_option maxRecDepth 100000
set_option maxHeartbeats 2000000
namespace Pl
open PySem PySem.Spec PyProof.Rows L2 RZ
/-! ### boxes and forms -/

def BoxF (t : Addr) : List (Str × V) := [("ranges", .ref t)]
def BoxAt (K : PySem.W.Frag) (H : Hp) (p : Addr) (ps : List (Int × Int)) : Prop := ∃ dx t, H p = some (.ins (He.ga K "Box") dx (BoxF t)) ∧ rT rRg K H (.ref t) ps
def FormF (t : Addr) (b : Int) : List (Str × V) := [("numbers", .ref t), ("base", .int b)]
def FormAt (K : PySem.W.Frag) (H : Hp) (p : Addr) (ns : List Int) (b : Int) : Prop := ∃ dx t, H p = some (.ins (He.ga K "Form") dx (FormF t b)) ∧ rT rI K H (.ref t) ns
theorem boxF_look (t : Addr) : (BoxF t).lookup ("ranges" : Str) = some (.ref t) := by simp [BoxF, List.lookup]
theorem boxF_none (t : Addr) {m : Str} (h : (m == ("ranges" : Str)) = false) : (BoxF t).lookup m = none := by
  unfold BoxF
  rw [List.lookup_cons, h]
  rfl
theorem formF_num (t : Addr) (b : Int) : (FormF t b).lookup ("numbers" : Str) = some (.ref t) := by simp [FormF, List.lookup]
theorem formF_base (t : Addr) (b : Int) : (FormF t b).lookup ("base" : Str) = some (.int b) := by
  unfold FormF
  rw [List.lookup_cons, show (("base" : Str) == ("numbers" : Str)) = false by decide +kernel]
  simp [List.lookup]
theorem formF_none (t : Addr) (b : Int) {m : Str} (h : (m == ("numbers" : Str)) = false) (h2 : (m == ("base" : Str)) = false) : (FormF t b).lookup m = none := by
  unfold FormF
  rw [List.lookup_cons, h, List.lookup_cons, h2]
  rfl
section
variable {K : PySem.W.Frag} {H H' : Hp} {p : Addr} {ps : List (Int × Int)} {ns : List Int} {b : Int} {E : Hp → Hp → Prop}
theorem BoxAt.car [CarT E] [Car E (rT rRg)] (e : E H H') (h : BoxAt K H p ps) : BoxAt K H' p ps := by
  obtain ⟨dx, t, h1, h2⟩ := h
  exact ⟨dx, t, CarT.ins e h1, Car.car e h2⟩
theorem FormAt.car [CarT E] [Car E (rT rI)] (e : E H H') (h : FormAt K H p ns b) : FormAt K H' p ns b := by
  obtain ⟨dx, t, h1, h2⟩ := h
  exact ⟨dx, t, CarT.ins e h1, Car.car e h2⟩
theorem BoxAt.same (e : Same H H') (h : BoxAt K H p ps) : BoxAt K H' p ps := h.car e
theorem FormAt.same (e : Same H H') (h : FormAt K H p ns b) : FormAt K H' p ns b := h.car e
theorem BoxAt.keep (e : Keep H H') (h : BoxAt K H p ps) : BoxAt K H' p ps := h.car e
theorem FormAt.keep (e : Keep H H') (h : FormAt K H p ns b) : FormAt K H' p ns b := h.car e
theorem BoxAt.sb {l : Addr} {xs : List V} (e : SameBut l H H') (hl : H l = some (.lst xs)) (h : BoxAt K H p ps) : BoxAt K H' p ps := by
  obtain ⟨dx, t, h1, h2⟩ := h
  exact ⟨dx, t, sb_ins e hl h1, CarB.car hl e h2⟩
theorem FormAt.sb {l : Addr} {xs : List V} (e : SameBut l H H') (hl : H l = some (.lst xs)) (h : FormAt K H p ns b) : FormAt K H' p ns b := by
  obtain ⟨dx, t, h1, h2⟩ := h
  exact ⟨dx, t, sb_ins e hl h1, CarB.car hl e h2⟩
end
end Pl

set_option Elab.async false
set_option linter.all false
set_option maxRecDepth 100000
set_option maxHeartbeats 2000000
namespace Pl
open PySem PySem.Spec PyProof.Rows L2 RZ
/-! what no change of an instance touches -/
class CarI {α : Type} (r : Rel α) : Prop where
  car : ∀ {K H H' x C dx fs v y}, H x = some (.ins C dx fs) → SameBut x H H' → r K H v y → r K H' v y
section
variable {α β γ : Type} {r : Rel α} {s : Rel β} {t : Rel γ} {K : PySem.W.Frag} {H H' : Hp} {x C dx : Addr} {fs : List (Str × V)}
theorem si_tup {a : Addr} {ys : List V} (e : H x = some (.ins C dx fs)) (b : SameBut x H H') (h : SqT K H a ys) : SqT K H' a ys := by
  rcases h with (h | ⟨o, h⟩) | h
  · exact .inl (.inl (b _ _ (ne_of h e (by intro z; cases z)) h))
  · exact .inl (.inr ⟨o, b _ _ (ne_of h e (by intro z; cases z)) h⟩)
  · exact .inr h
instance : CarI rI := ⟨fun _ _ h => h⟩
instance : CarI rS := ⟨fun _ _ h => h⟩
instance : CarI rB := ⟨fun _ _ h => h⟩
instance : CarI rN := ⟨fun _ _ h => h⟩
theorem AllR.carI [c : CarI r] (e : H x = some (.ins C dx fs)) (b : SameBut x H H') {vs : List V} {xs : List α} (h : AllR r K H vs xs) : AllR r K H' vs xs := AllR.map (fun _ _ => CarI.car e b) h
instance [CarI r] [CarI s] : CarI (rPair r s) := ⟨fun e b ⟨T, x, y, h0, h1, h2, h3⟩ => ⟨T, x, y, h0, si_tup e b h1, CarI.car e b h2, CarI.car e b h3⟩⟩
instance [CarI r] [CarI s] [CarI t] : CarI (rTri r s t) := ⟨fun e b ⟨T, x, y, z, h0, h1, h2, h3, h4⟩ => ⟨T, x, y, z, h0, si_tup e b h1, CarI.car e b h2, CarI.car e b h3, CarI.car e b h4⟩⟩
instance [CarI r] : CarI (rT r) := ⟨fun e b ⟨T, vs, h0, h1, h2⟩ => ⟨T, vs, h0, si_tup e b h1, h2.carI e b⟩⟩
instance [CarI r] : CarI (rL r) := ⟨fun e b ⟨a, vs, h0, h1, h2⟩ => ⟨a, vs, h0, b _ _ (ne_of h1 e (by intro z; cases z)) h1, h2.carI e b⟩⟩
instance [CarI r] : CarI (rO r) := ⟨fun {K H H' D C dx fs v x} e b h => by
  cases x with
  | none => exact h
  | some y => exact CarI.car (r := r) e b h⟩
theorem carU [CarI r] {v : V} {y : α} {o : HO} (e : H x = some (.ins C dx fs)) (h : r K H v y) : r K (upd H x o) v y := CarI.car e .of_upd h
theorem sb_upd {H1 : Hp} {o : HO} (b : SameBut x H H1) : SameBut x H (upd H1 x o) := fun c u n e => by rw [upd_ne n]; exact b _ _ n e
theorem sb_same {H1 : Hp} (s : Same H1 H') (b : SameBut x H H1) : SameBut x H H' := fun c u n e => s _ _ (b _ _ n e)
theorem same_sb (s : Same H H') : SameBut x H H' := fun c u _ e => s _ _ e
end
end Pl
namespace Pl
open PySem PySem.Spec PyProof.Rows L2 RZ
section
variable {K : PySem.W.Frag} {H : Hp} {Q : VK}
theorem AllR.bools : ∀ {vs : List V} {bs : List Bool}, AllR rB K H vs bs → vs = bs.map V.bl
  | [], [], _ => rfl
  | v :: vs, n :: ns, h => by
    rw [List.map_cons, AllR.bools (vs := vs) (bs := ns) h.2]
    exact congrArg (· :: _) h.1
  | [], _ :: _, h => h.elim
  | _ :: _, [], h => h.elim
theorem k_allR {v : V} {bs : List Bool} (h : rL rB K H v bs) (q : Q (.bl (bs.all id)) H) : rAll K [v] H Q := by
  obtain ⟨a, vs, rfl, h1, h2⟩ := h
  rw [h2.bools] at h1
  exact ⟨a, bs, rfl, SqL.of h1, q⟩
theorem k_anyR {v : V} {bs : List Bool} (h : rL rB K H v bs) (q : Q (.bl (bs.any id)) H) : rAny K [v] H Q := by
  obtain ⟨a, vs, rfl, h1, h2⟩ := h
  rw [h2.bools] at h1
  exact ⟨a, bs, rfl, SqL.of h1, q⟩
theorem k_sumR {v : V} {ns : List Int} (h : rL rI K H v ns) (q : Q (.int ns.sum) H) : rSum K [v] H Q := by
  obtain ⟨a, rfl⟩ := h.ref
  exact ⟨a, ns, rfl, SqL.of h.ints, q⟩
end
/-! mathematics of boxes and forms -/
def amtL (ps : List (Int × Int)) : Int := ps.foldl (fun a p => a * (p.2 - p.1 + 1)) 1
theorem amtL_snoc (ps : List (Int × Int)) (p : Int × Int) : amtL (ps ++ [p]) = amtL ps * (p.2 - p.1 + 1) := by
  unfold amtL
  rw [List.foldl_append]
  rfl
theorem amtL_small {ps : List (Int × Int)} {m : Nat} (h : ∀ p ∈ ps, p.1.natAbs < 2 ^ m ∧ p.2.natAbs < 2 ^ m) : ∀ i, i ≤ ps.length → (amtL (ps.take i)).natAbs < 2 ^ ((m + 2) * i + 1)
  | 0, _ => by
    rw [List.take_zero]
    show 1 < 2 ^ (0 + 1)
    decide
  | i + 1, hi => by
    have ih := amtL_small h i (by omega)
    have hx : ps[i]? = some (ps.getD i (0, 0)) := at_getD _ (by omega)
    rw [take_snoc hx, amtL_snoc, Int.natAbs_mul]
    have b := h _ (List.mem_of_getElem? hx)
    have c : ((ps.getD i (0, 0)).2 - (ps.getD i (0, 0)).1 + 1).natAbs ≤ 2 ^ (m + 2) := by
      have : 2 ^ (m + 2) = 2 ^ m * 4 := Nat.pow_add 2 m 2
      have := Nat.pow_pos (n := m) (show 0 < 2 by decide)
      omega
    have e : (m + 2) * (i + 1) + 1 = (m + 2) * i + 1 + (m + 2) := by rw [Nat.mul_succ]; omega
    rw [e, Nat.pow_add]
    exact Nat.mul_lt_mul_of_lt_of_le ih c (Nat.pow_pos (by decide))
def hasL (ps : List (Int × Int)) (xs : List Int) : Bool := if xs.length = ps.length then (xs.zip ps).all fun z => decide (z.2.1 ≤ z.1) && decide (z.1 ≤ z.2.2) else false
theorem hasL_iff {ps : List (Int × Int)} {xs : List Int} : hasL ps xs = true ↔ InBox ps xs := by
  unfold hasL InBox
  by_cases h : xs.length = ps.length
  · rw [if_pos h, List.all_eq_true]
    constructor
    · intro g
      refine ⟨h, fun i hi => ?_⟩
      have := g (xs.getD i 0, ps.getD i (0, 0)) (List.mem_of_getElem? (i := i) (List.getElem?_zip_eq_some.mpr ⟨at_getD 0 (by omega), at_getD _ hi⟩))
      simpa using this
    · rintro ⟨_, g⟩ ⟨x, p⟩ hz
      obtain ⟨i, hi⟩ := List.getElem?_of_mem hz
      obtain ⟨h1, h2⟩ := List.getElem?_zip_eq_some.mp hi
      have := g i (List.getElem?_eq_some_iff.mp h2).1
      rw [getD_at h1, getD_at h2] at this
      simpa using this
  · rw [if_neg h]
    exact ⟨fun z => (by cases z), fun z => absurd z.1 h⟩
def dotL (ns xs : List Int) : Int := ((ns.zip xs).map fun z => z.1 * z.2).sum
def cornerL (ns : List Int) (ps : List (Int × Int)) : List Int := (ns.zip ps).map fun z => if z.1 > 0 then z.2.2 else z.2.1
theorem cornerL_len {ns : List Int} {ps : List (Int × Int)} (h : ns.length = ps.length) : (cornerL ns ps).length = ps.length := by
  rw [cornerL, List.length_map, List.length_zip, h, Nat.min_self]
theorem dotL_cons (n x : Int) (ns xs : List Int) : dotL (n :: ns) (x :: xs) = n * x + dotL ns xs := by
  unfold dotL
  rw [List.zip_cons_cons, List.map_cons, List.sum_cons]
theorem cornerL_cons (n : Int) (p : Int × Int) (ns : List Int) (ps : List (Int × Int)) : cornerL (n :: ns) (p :: ps) = (if n > 0 then p.2 else p.1) :: cornerL ns ps := by
  unfold cornerL
  rw [List.zip_cons_cons, List.map_cons]
theorem inBox_cons {p : Int × Int} {ps : List (Int × Int)} {x : Int} {xs : List Int} : InBox (p :: ps) (x :: xs) ↔ (p.1 ≤ x ∧ x ≤ p.2) ∧ InBox ps xs := by
  constructor
  · rintro ⟨h1, h2⟩
    exact ⟨h2 0 (Nat.zero_lt_succ _), Nat.succ.inj h1, fun i hi => h2 (i + 1) (Nat.succ_lt_succ hi)⟩
  · rintro ⟨h0, h1, h2⟩
    refine ⟨congrArg Nat.succ h1, fun i hi => ?_⟩
    cases i with
    | zero => exact h0
    | succ i => exact h2 i (Nat.lt_of_succ_lt_succ hi)
theorem inBox_nil {xs : List Int} : InBox [] xs ↔ xs = [] := ⟨fun h => List.eq_nil_of_length_eq_zero h.1, fun h => by subst h; exact ⟨rfl, fun i hi => absurd hi (Nat.not_lt_zero _)⟩⟩
theorem inBox_ne {p : Int × Int} {ps : List (Int × Int)} {xs : List Int} (h : InBox (p :: ps) xs) : ∃ x ys, xs = x :: ys := by
  cases xs with
  | nil => cases h.1
  | cons x ys => exact ⟨x, ys, rfl⟩
/-- the corner is in the box, and no point has a greater sum -/
theorem corner_in : ∀ {ns : List Int} {ps : List (Int × Int)}, ns.length = ps.length → Valid ps → InBox ps (cornerL ns ps) ∧ ∀ xs, InBox ps xs → dotL ns xs ≤ dotL ns (cornerL ns ps)
  | [], [], _, _ => ⟨inBox_nil.mpr rfl, fun xs h => by rw [inBox_nil.mp h]; exact Int.le_refl _⟩
  | n :: ns, p :: ps, hl, hv => by
    have ih := corner_in (ns := ns) (ps := ps) (Nat.succ.inj hl) fun q hq => hv q (List.mem_cons_of_mem _ hq)
    have vp := hv p (List.mem_cons_self ..)
    rw [cornerL_cons]
    refine ⟨inBox_cons.mpr ⟨by split <;> omega, ih.1⟩, fun xs h => ?_⟩
    obtain ⟨x, ys, rfl⟩ := inBox_ne h
    obtain ⟨⟨h1, h2⟩, h3⟩ := inBox_cons.mp h
    have := ih.2 ys h3
    rw [dotL_cons, dotL_cons]
    split
    · have := Int.mul_le_mul_of_nonneg_left h2 (show 0 ≤ n by omega)
      omega
    · have := Int.mul_le_mul_of_nonpos_left (show n ≤ 0 by omega) h1
      omega
def ngL (xs : List Int) : List Int := xs.map fun x => -x
theorem ngL_len (ns : List Int) : (ngL ns).length = ns.length := by unfold ngL; rw [List.length_map]
theorem dot_neg : ∀ (ns xs : List Int), dotL (ngL ns) xs = -dotL ns xs
  | [], xs => by simp [ngL, dotL]
  | n :: ns, [] => by simp [ngL, dotL]
  | n :: ns, x :: xs => by
    have ih := dot_neg ns xs
    have e : ngL (n :: ns) = -n :: ngL ns := rfl
    rw [e, dotL_cons, dotL_cons, ih, Int.neg_mul]
    omega
theorem low_in {ns : List Int} {ps : List (Int × Int)} (hl : ns.length = ps.length) (hv : Valid ps) : InBox ps (cornerL (ngL ns) ps) ∧ ∀ xs, InBox ps xs → dotL ns (cornerL (ngL ns) ps) ≤ dotL ns xs := by
  have h := corner_in (ns := ngL ns) (by rw [ngL_len]; exact hl) hv
  refine ⟨h.1, fun xs hx => ?_⟩
  have := h.2 xs hx
  rw [dot_neg, dot_neg] at this
  omega
theorem dot_add : ∀ (ns ms xs : List Int), ns.length = ms.length → dotL (addL ns ms) xs = dotL ns xs + dotL ms xs
  | [], [], xs, _ => by
    have : addL ([] : List Int) [] = [] := rfl
    rw [this]
    simp [dotL]
  | n :: ns, m :: ms, [], _ => by simp [dotL]
  | n :: ns, m :: ms, x :: xs, h => by
    have ih := dot_add ns ms xs (Nat.succ.inj h)
    have e : addL (n :: ns) (m :: ms) = (n + m) :: addL ns ms := by
      unfold addL
      simp
    rw [e, dotL_cons, dotL_cons, dotL_cons, ih, Int.add_mul]
    omega
theorem dot_scale (k : Int) : ∀ (ns xs : List Int), dotL (ns.map (· * k)) xs = k * dotL ns xs
  | [], xs => by simp [dotL]
  | n :: ns, [] => by simp [dotL]
  | n :: ns, x :: xs => by
    have ih := dot_scale k ns xs
    rw [List.map_cons, dotL_cons, dotL_cons, ih, Int.mul_add, Int.mul_comm n k, Int.mul_assoc]
end Pl
namespace Pl
open PySem PySem.Spec PyProof.Rows L2 RZ
theorem units65 {k : Nat} {A : Around} (r : Room k A) : A.units + 65 < cLine := by have := r.un; omega
theorem op_inDK {X : Cx} {K : PySem.W.Frag} (hu : X.A.units + 65 < cLine) (hK : X.K = K := by rfl) : OpR X (compareOp .In) (rInD K) := hK ▸ op_inD hu
theorem op_notInDK {X : Cx} {K : PySem.W.Frag} (hu : X.A.units + 65 < cLine) (hK : X.K = K := by rfl) : OpR X (compareOp .NotIn) (rNotInD K) := hK ▸ op_notInD hu
section
variable {α β : Type} {K : PySem.W.Frag} {H : Hp} {Q : VK}
theorem any_dec (r : Rel α) [d : DataR r] [DecidableEq α] (x : α) : ∀ xs : List α, ((xs.map d.f).any fun z => PyData.eqv z (d.f x)) = decide (x ∈ xs)
  | [] => by simp
  | y :: ys => by
    rw [List.map_cons, List.any_cons, any_dec r x ys, eqv_dec]
    by_cases h : y = x
    · simp [h]
    · have h' : ¬ x = y := fun z => h z.symm
      simp [h, h']
theorem k_inR (r : Rel α) [d : DataR r] [DecidableEq α] {v w : V} {x : α} {xs : List α} (h1 : r K H v x) (h2 : rL r K H w xs) (q : Q (.bl (decide (x ∈ xs))) H) (hn : d.n ≤ 63 := by decide) : rInD K v w H Q :=
  ⟨_, _, d.dp h1, (inferInstance : DataR (rL r)).dp h2, shaped_of h1 (by omega), shaped_of (d := (inferInstance : DataR (rL r))) h2 (by show d.n + 1 ≤ 64; omega), by rw [any_dec]; exact q⟩
theorem k_notInR (r : Rel α) [d : DataR r] [DecidableEq α] {v w : V} {x : α} {xs : List α} (h1 : r K H v x) (h2 : rL r K H w xs) (q : Q (.bl (!decide (x ∈ xs))) H) (hn : d.n ≤ 63 := by decide) : rNotInD K v w H Q :=
  ⟨_, _, d.dp h1, (inferInstance : DataR (rL r)).dp h2, shaped_of h1 (by omega), shaped_of (d := (inferInstance : DataR (rL r))) h2 (by show d.n + 1 ≤ 64; omega), by rw [any_dec]; exact q⟩
end
section
variable {β : Type} {s : Rel β} {K : PySem.W.Frag} {H : Hp} {Q : VK} {σ : L2.St} {g : TG} {tt : TT} {te : TE} {vs : List Nat}
/-- [e for k in range(m) if ..] -/
theorem k_lcFR1 [Car Same s] [CarB s] {m : Int} (f : Int → Option β) (h0 : 0 ≤ m) (hm : m ≤ 100000)
    (hs : ∀ x H2 X Z, 0 ≤ x → x < m → Same H H2 → (∀ H3 u y, Same H2 H3 → s K H3 u y → f x = some y → X u H3) → (∀ H3, Same H2 H3 → f x = none → Z H3) → LcTurn g tt te vs σ (.int x) H2 X Z)
    (q : ∀ H' D, Same H H' → H D = none → rL s K H' (.ref D) ((List.range m.toNat).filterMap fun i : Nat => f (i : Int)) → Q (.ref D) H') : ∃ j : Int, [V.int m] = [.int j] ∧ -(2 ^ 62) ≤ j ∧ j < 2 ^ 62 ∧ LcTail (Itr 0 j.toNat) g tt te vs σ Q H := by
  refine ⟨m, rfl, by omega, by omega, lcS (r := rI) (s := s) (K := K) walkR_rg f (by rw [List.length_map, List.length_range]) (by omega) (fun _ _ => trivial) (fun x w H2 X Z hx hr e hX hZ => ?_) fun H' D e hD h => q H' D e hD ?_⟩
  · obtain ⟨i, hi, rfl⟩ := List.mem_map.mp hx
    rw [show w = .int _ from hr]
    have := List.mem_range.mp hi
    exact hs _ H2 X Z (by omega) (by omega) e hX hZ
  · rw [List.filterMap_map] at h
    have e : (f ∘ fun i : Nat => (0 : Int) + (i : Int)) = fun i : Nat => f (i : Int) := by
      funext i
      show f (0 + (i : Int)) = _
      rw [Int.zero_add]
    rw [e] at h
    exact h
end
end Pl

set_option Elab.async false
set_option linter.all false
set_option maxRecDepth 100000
/-! isinstance(v, tuple) of a tuple -/
namespace Pl
open PySem PySem.Spec PyProof.Rows L2 RZ
def rIsTup (K : PySem.W.Frag) : List V → Hp → VK → Prop := fun xs H Q => ∃ a ys, xs = [.ref a, .ty "tuple"] ∧ SqT K H a ys ∧ Q (.bl true) H
theorem call_isTup {X : Cx} {K : PySem.W.Frag} (hK : X.K = K := by rfl) : CallR X (.builtin "isinstance") (rIsTup K) := by
  subst hK
  intro pins s σ H xs us Q I r h
  obtain ⟨b, ys, rfl, hT, q⟩ := h
  have ty : TyX X.K H (.ref b) (.type "tuple") := by
    rcases hT with (h | ⟨o, h⟩) | ⟨o, its, n, hk, hc, _⟩
    · exact .base (.tup h)
    · exact .fTuple h
    · exact .kTuple hk hc
  exact call_isi pins s σ H _ us Q I r ⟨_, _, _, _, true, rfl, .ty _, ty, rfl, q⟩
theorem k_isTupR {K : PySem.W.Frag} {H : Hp} {Q : VK} {α : Type} {r : Rel α} {v : V} {xs : List α} (h : rT r K H v xs) (q : Q (.bl true) H) : rIsTup K [v, .ty "tuple"] H Q := by
  obtain ⟨a, vs, rfl, h1, _⟩ := h
  exact ⟨a, vs, rfl, h1, q⟩
end Pl

set_option Elab.async false
set_option linter.all false
set_option maxRecDepth 100000
set_option maxHeartbeats 2000000
/-! texts: signs, walks, times, joined; isinstance of texts, lists, tuples -/
namespace Pl
open PySem PySem.Spec PyProof.Rows L2 RZ
section
variable {X : Cx} {K : PySem.W.Frag} {H : Hp} {Q : VK} {σ : L2.St}
def rLenS : List V → Hp → VK → Prop := fun xs H Q => ∃ z, xs = [.str z] ∧ z.length ≤ sizeLine ∧ Q (.int z.length) H
theorem call_lenS : CallR X (.builtin "len") rLenS := call_len_str
theorem k_lenS {z : Str} (h : z.length ≤ 1000000) (q : Q (.int z.length) H) : rLenS [.str z] H Q := ⟨z, rfl, Nat.le_of_lt (len_big h), q⟩
def rLeS : R2 := fun x y H Q => ∃ i j, x = .str i ∧ y = .str j ∧ Q (.bl (!decide (j.cps.toList < i.cps.toList))) H
theorem op_leS : OpR X (compareOp .LtE) rLeS := op_le_str
theorem k_leS {x y : Str} (q : Q (.bl (!decide (y.cps.toList < x.cps.toList))) H) : rLeS (.str x) (.str y) H Q := ⟨x, y, rfl, rfl, q⟩
def rInG (n : Bool) : R2 := fun x y H Q => ∃ (c : Nat) (z : Str), x = .str ⟨#[c]⟩ ∧ y = .str z ∧ Q (.bl (if n = true then !decide (c ∈ z.cps.toList) else decide (c ∈ z.cps.toList))) H
theorem op_inG : OpR X (compareOp .In) (rInG false) := fun pins s σ H x y v u Q I r1 r2 h => by
  obtain ⟨c, z, e1, e2, q⟩ := h
  exact op_in_sign pins s σ H x y v u Q I r1 r2 ⟨c, z, e1, e2, q⟩
theorem op_notInG : OpR X (compareOp .NotIn) (rInG true) := fun pins s σ H x y v u Q I r1 r2 h => by
  obtain ⟨c, z, e1, e2, q⟩ := h
  exact op_notIn_sign pins s σ H x y v u Q I r1 r2 ⟨c, z, e1, e2, q⟩
/-! text times number -/
def timesS (z : Str) (n : Int) : Str := ⟨(List.replicate n.toNat z.cps.toList).flatten.toArray⟩
def rMulS : R2 := fun x y H Q => ∃ (z : Str) (n : Int), x = .str z ∧ y = .int n ∧ 0 ≤ n ∧ n ≤ 1000 ∧ z.length ≤ 1000 ∧ Q (.str (timesS z n)) H
theorem foldl_cps (xs : List Nat) : ∀ (n : Nat) (a : Array Nat), List.foldl (fun x1 x2 => x1 ++ x2) a (List.replicate n xs.toArray) = a ++ (List.replicate n xs).flatten.toArray
  | 0, a => by simp
  | n + 1, a => by
    rw [List.replicate_succ, List.foldl_cons, foldl_cps xs n, List.replicate_succ, List.flatten_cons]
    simp
theorem str_eta (z : Str) : z = ⟨z.cps.toList.toArray⟩ := by
  cases z
  simp
theorem timesS_zero {z : Str} {n : Int} (h : n < 1) : timesS z n = Str.empty := by
  have : n.toNat = 0 := by omega
  unfold timesS
  rw [this]
  rfl
theorem timesS_one {z : Str} : timesS z 1 = z := by
  unfold timesS
  show (⟨(List.replicate 1 z.cps.toList).flatten.toArray⟩ : Str) = z
  simp
theorem timesS_nil {z : Str} {n : Int} (h : z.length = 0) : timesS z n = z := by
  have e : z.cps.toList = [] := by
    cases z with
    | mk a =>
      have : a.size = 0 := h
      simpa using this
  unfold timesS
  rw [e]
  conv => rhs; rw [str_eta z, e]
  simp
theorem timesS_len {z : Str} {n : Int} : (timesS z n).length = n.toNat * z.length := by
  show (List.replicate n.toNat z.cps.toList).flatten.toArray.size = _
  rw [List.size_toArray, List.length_flatten, List.map_replicate, List.sum_replicate_nat]
  rfl
theorem foldl_rep (z : Str) (n : Int) : (⟨List.foldl (fun x1 x2 => x1 ++ x2) #[] (List.replicate n.toNat z.cps)⟩ : Str) = timesS z n := by
  unfold timesS
  have e : z.cps = z.cps.toList.toArray := by simp
  conv => lhs; rw [e, foldl_cps]
  simp
theorem op_mulS : OpR X (binaryOp .Mult) rMulS := by
  intro pins s σ H x y v u Q I rx ry h
  obtain ⟨z, n, rfl, rfl, h0, h1, h2, q⟩ := h
  obtain ⟨t, rfl⟩ := rx
  obtain ⟨t2, rfl⟩ := ry
  have hb : n.toNat * z.length ≤ 1000 * 1000 := Nat.mul_le_mul (by omega) h2
  have fin : ∀ w : Str, w = timesS z n → w.length ≤ sizeLine ∧ EP X pins σ Q (Value.str w s.toks) { heap := s.heap, gens := s.gens, drawn := s.drawn, toks := s.toks + 1, os := s.os } := fun w e => by
    subst e
    exact ⟨by rw [timesS_len]; exact Nat.le_trans hb (by decide), .str _, H, I.kept fun _ _ e => e, ⟨_, rfl⟩, q⟩
  refine P.mul_str (by simp; omega) (fun h3 _ => ?_) (fun _ _ => ?_) ?_
  · have : (1000 : Int) ≤ (2 ^ 63 - 1) / n := (Int.le_ediv_iff_mul_le (by omega)).mpr (by omega)
    omega
  · refine decide_eq_false (Nat.not_lt.mpr ?_)
    rw [Nat.mul_comm]
    exact Nat.le_trans hb (by decide)
  · by_cases a : n < 1
    · rw [if_pos a]
      unfold Made.post
      exact fin _ (timesS_zero a).symm
    rw [if_neg a]
    by_cases b : (n == 1 || z.length == 0) = true
    · rw [if_pos b]
      unfold Made.post
      have e : timesS z n = z := by
        rcases (Bool.or_eq_true _ _).mp b with b | b
        · rw [show n = 1 from eq_of_beq b]
          exact timesS_one
        · exact timesS_nil (eq_of_beq b)
      exact ⟨.str z, H, I, ⟨_, rfl⟩, by rw [← e]; exact q⟩
    · rw [if_neg b]
      unfold Made.post
      exact fin _ (foldl_rep z n)
theorem k_mulS {z : Str} {n : Int} (h0 : 0 ≤ n) (h1 : n ≤ 1000) (h2 : z.length ≤ 1000) (q : Q (.str (timesS z n)) H) : rMulS (.str z) (.int n) H Q := ⟨z, n, rfl, rfl, h0, h1, h2, q⟩
theorem strOk_iff {z : Str} : PyData.strOk z = true ↔ ∀ c ∈ z.cps.toList, c < 1114112 := by
  unfold PyData.strOk
  rw [← Array.all_toList, List.all_eq_true]
  exact ⟨fun h c hc => of_decide_eq_true (h c hc), fun h c hc => decide_eq_true (h c hc)⟩
theorem timesS_ok {z : Str} {n : Int} (h : PyData.strOk z = true) : PyData.strOk (timesS z n) = true := by
  rw [strOk_iff] at h ⊢
  intro c hc
  have hc : c ∈ (List.replicate n.toNat z.cps.toList).flatten := hc
  obtain ⟨l, hl, hc⟩ := List.mem_flatten.mp hc
  rw [(List.mem_replicate.mp hl).2] at hc
  exact h c hc
/-! powers of numbers of more than 64 bits -/
def CPowX : Int → Int → Prop := fun i j => 0 ≤ j ∧ ((Builtin.Int.intBits i : Nat) : Int) * j ≤ 2 ^ 27
theorem op_powX : OpR X (binaryOp .Pow) (_root_.L2.rI CPowX fun i j => .int (i ^ j.toNat)) := by
  intro pins s σ H x y v u Q I rx ry h
  obtain ⟨i, j, rfl, rfl, ⟨h0, h1⟩, q⟩ := h
  obtain ⟨t, rfl⟩ := rx
  obtain ⟨t2, rfl⟩ := ry
  exact pow_int h0 h1 ⟨.int _, H, I.kept fun _ _ e => e, ⟨_, rfl⟩, q⟩
/-! a sign of a text -/
def rC : Rel Nat := fun _ _ v c => v = .str ⟨#[c]⟩
instance {E : Hp → Hp → Prop} : Car E rC := ⟨fun _ h => h⟩
instance : CarB rC := ⟨fun _ _ h => h⟩
theorem k_ixS {z : Str} {i : Int} {c : Nat} (h : z.length ≤ 1000000) (h0 : 0 ≤ i) (e : z.cps.toList[i.toNat]? = some c) (q : Q (.str ⟨#[c]⟩) H) : rIxS (.str z) (.int i) H Q := by
  refine ⟨z, i, c, rfl, rfl, Nat.le_of_lt (len_big h), ?_, q⟩
  have := atI_nat (xs := z.cps.toList) (j := i.toNat) e
  rw [Int.toNat_of_nonneg h0] at this
  exact this
/-! walks over texts -/
theorem walkR_S {z : Str} : Walk (Its z) z.cps.size (fun _ => True) (YR rC K z.cps.toList) := by
  refine ⟨walk_str.goes, walk_str.stops, fun i H x H' hi h y => ?_⟩
  obtain ⟨rfl, c, hc, rfl⟩ := walk_str.yields i H x H' hi h y
  exact ⟨Same.refl _, c, by rw [Array.getElem?_toList]; exact hc, rfl⟩
variable {α β : Type} {s : Rel β} {tt : TT} {te : TE} {g : TG} {vs : List Nat}
theorem k_lcStr {ts : TE} (q : ts σ H fun v H1 => ∃ x, v = .str x ∧ LcTail (Its x) g tt te vs σ Q H1) : tLcN (iStr ts) g tt te vs σ H Q := q
theorem k_lcMS [Car Same s] [CarB s] {z : Str} (f : Nat → β) (hm : z.length ≤ 100000)
    (hs : ∀ x w H2 X Z, x ∈ z.cps.toList → rC K H2 w x → Same H H2 → (∀ H3 u, Same H2 H3 → s K H3 u (f x) → X u H3) → LcTurn g tYes te vs σ w H2 X Z)
    (q : ∀ H' D, Same H H' → H D = none → rL s K H' (.ref D) (z.cps.toList.map f) → Q (.ref D) H') : ∃ x, V.str z = .str x ∧ LcTail (Its x) g tYes te vs σ Q H :=
  ⟨z, rfl, lcM (K := K) walkR_S f (by rw [Array.length_toList]) hm (fun _ _ => trivial) hs q⟩
theorem k_lcFS [Car Same s] [CarB s] {z : Str} (f : Nat → Option β) (hm : z.length ≤ 100000)
    (hs : ∀ x w H2 X Z, x ∈ z.cps.toList → rC K H2 w x → Same H H2 → (∀ H3 u y, Same H2 H3 → s K H3 u y → f x = some y → X u H3) → (∀ H3, Same H2 H3 → f x = none → Z H3) → LcTurn g tt te vs σ w H2 X Z)
    (q : ∀ H' D, Same H H' → H D = none → rL s K H' (.ref D) (z.cps.toList.filterMap f) → Q (.ref D) H') : ∃ x, V.str z = .str x ∧ LcTail (Its x) g tt te vs σ Q H :=
  ⟨z, rfl, lcS (K := K) walkR_S f (by rw [Array.length_toList]) hm (fun _ _ => trivial) hs q⟩
theorem k_inG {c : Nat} {z : Str} {n : Bool} (q : Q (.bl (if n = true then !decide (c ∈ z.cps.toList) else decide (c ∈ z.cps.toList))) H) : rInG n (.str ⟨#[c]⟩) (.str z) H Q := ⟨c, z, rfl, rfl, q⟩
/-! joined -/
def rJoin (K : PySem.W.Frag) : V → List V → Hp → VK → Prop := fun x xs H Q => ∃ a p, ∃ ys : List Str, x = .str a ∧ xs = [.ref p] ∧ (SqL K H p (ys.map V.str) ∨ SqT K H p (ys.map V.str)) ∧ (ys.map (·.length)).sum + ys.length * a.length ≤ 16777216 ∧ Q (.str (Txt.join a ys)) H
def tJoin (K : PySem.W.Frag) (to te : TE) : TE := fun σ H Q => to σ H fun x H1 => (∃ a, x = .str a) ∧ te σ H1 fun y H2 => rJoin K x [y] H2 Q
theorem pe_joinK {o e : Expr} {to te : TE} {apos pos : Pos} (ho : PE X o to) (he : PE X e te) (hst : starEach [e] X.env = [(false, eval e X.env)] := by rfl) (hat : attributeBase o "join" X.env (eval o X.env) = eval o X.env := by rfl) (hp : (apos.endLine == pos.line) = true := by rfl) (hK : X.K = K := by rfl) :
    PE X (.Call (.Attribute o "join" apos) [e] [] pos) (tJoin K to te) := hK ▸ pe_join ho he hst hat hp
theorem k_tJoin {to te : TE} (q : to σ H fun x H1 => (∃ a, x = .str a) ∧ te σ H1 fun y H2 => rJoin K x [y] H2 Q) : tJoin K to te σ H Q := q
theorem AllR.signs : ∀ {vs : List V} {cs : List Nat}, AllR rC K H vs cs → vs = (cs.map fun c => (⟨#[c]⟩ : Str)).map V.str
  | [], [], _ => rfl
  | v :: vs, c :: cs, h => by
    rw [List.map_cons, List.map_cons, ← AllR.signs (vs := vs) (cs := cs) h.2]
    exact congrArg (· :: _) h.1
  | [], _ :: _, h => h.elim
  | _ :: _, [], h => h.elim
theorem glued_signs : ∀ (cs : List Nat) (a : Array Nat), List.foldl (fun acc (p : Str) => acc ++ Str.empty.cps ++ p.cps) a (cs.map fun c => (⟨#[c]⟩ : Str)) = a ++ cs.toArray
  | [], a => by simp
  | c :: cs, a => by
    rw [List.map_cons, List.foldl_cons, glued_signs cs]
    show a ++ #[] ++ #[c] ++ cs.toArray = _
    simp
theorem join_signs (cs : List Nat) : Txt.join Str.empty (cs.map fun c => (⟨#[c]⟩ : Str)) = ⟨cs.toArray⟩ := by
  cases cs with
  | nil => rfl
  | cons c cs =>
    show (⟨_⟩ : Str) = _
    congr 1
    show List.foldl (fun acc (p : Str) => acc ++ Str.empty.cps ++ p.cps) #[c] (cs.map fun c => (⟨#[c]⟩ : Str)) = _
    rw [glued_signs]
    simp
theorem k_join {v : V} {cs : List Nat} (h : rL rC K H v cs) (hl : cs.length ≤ 1000) (q : Q (.str ⟨cs.toArray⟩) H) : rJoin K (.str Str.empty) [v] H Q := by
  obtain ⟨a, vs, rfl, h1, h2⟩ := h
  refine ⟨_, a, cs.map fun c => ⟨#[c]⟩, rfl, rfl, .inl (SqL.of (by rw [h1, h2.signs])), ?_, by rw [join_signs]; exact q⟩
  have e : (cs.map fun c => (⟨#[c]⟩ : Str)).map (·.length) = cs.map fun _ => 1 := by
    rw [List.map_map]
    rfl
  rw [e, show Str.empty.length = 0 from rfl, Nat.mul_zero]
  have : (cs.map fun _ => 1).sum = cs.length := by
    clear e h2 hl q
    induction cs with
    | nil => rfl
    | cons c cs ih => rw [List.map_cons, List.sum_cons, ih, List.length_cons, Nat.add_comm]
  rw [this]
  omega
/-! isinstance -/
def rIsTy (K : PySem.W.Frag) (b : String) : List V → Hp → VK → Prop := fun xs H Q => ∃ x t k, xs = [x, .ty b] ∧ TyX K H x (.type t) ∧ kitB t b = some k ∧ Q (.bl k) H
theorem call_isTy {b : String} (hK : X.K = K := by rfl) : CallR X (.builtin "isinstance") (rIsTy K b) := by
  subst hK
  intro pins s σ H xs us Q I r h
  obtain ⟨x, t, k, rfl, ht, e, q⟩ := h
  exact call_isi pins s σ H _ us Q I r ⟨_, _, _, _, k, rfl, .ty _, ht, kit_ty e, q⟩
theorem k_isStr {z : Str} (q : Q (.bl true) H) : rIsTy K "str" [.str z, .ty "str"] H Q := ⟨_, "str", true, rfl, .base (.str _), by decide +kernel, q⟩
def rIsiTK (K : PySem.W.Frag) : List V → Hp → VK → Prop := rIsiT K
theorem call_isiTK (hK : X.K = K := by rfl) : CallR X (.builtin "isinstance") (rIsiTK K) := hK ▸ call_isiT
theorem k_isiT {v : V} {p : Addr} {t : String} {b c : String} {k1 k2 : Bool} (hp : H p = some (.tup [.ty b, .ty c])) (ht : TyX K H v (.type t)) (e1 : kitB t b = some k1) (e2 : kitB t c = some k2) (q : Q (.bl (k1 || k2)) H) : rIsiTK K [v, .ref p] H Q :=
  ⟨v, p, _, .type t, [.type b, .type c], k1 || k2, rfl, hp, .cons (.ty _) (.cons (.ty _) .nil), ht, by
    have f1 := kit_ty (K := K) e1
    have f2 := kit_ty (K := K) e2
    show PySem.W.kitAny K (.type t) [.type b, .type c] = _
    simp only [PySem.W.kitAny, f1, f2]
    cases k1 <;> cases k2 <;> rfl, q⟩
/-! dicts of texts -/
def dkv (kvs : List (Str × Int)) : List (L2.Key × V) := kvs.map fun p => (.inr p.1, .int p.2)
def rDct (kvs : List (Str × Int)) (H : Hp) (a : Addr) : Prop := H a = some (.dK (dkv kvs))
theorem valV_dkv (n : Str) : ∀ kvs : List (Str × Int), valV (dkv kvs) (.inr n) = (kvs.lookup n).map V.int
  | [] => rfl
  | (m, k) :: kvs => by
    by_cases e : n = m
    · subst e
      rw [List.lookup_cons_self]
      exact valV_pos (p := ((Sum.inr n : L2.Key), V.int k)) rfl
    · have h1 : valV (dkv ((m, k) :: kvs)) (.inr n) = valV (dkv kvs) (.inr n) := valV_neg (p := ((Sum.inr m : L2.Key), V.int k)) fun z => e (Sum.inr.inj z).symm
      rw [h1, valV_dkv n kvs, List.lookup_cons, show (n == m) = false from beq_eq_false_iff_ne.mpr e]
theorem k_dget {kvs : List (Str × Int)} {a : Addr} {n : Str} (h : rDct kvs H a) : DGet H a (.str n) ((kvs.lookup n).map V.int) := by
  have := DGet.k (k := Sum.inr n) h
  rw [valV_dkv] at this
  exact this
theorem k_dput {kvs : List (Str × Int)} {a : Addr} {n : Str} {k : Int} (h : rDct kvs H a) (hl : kvs.length ≤ 1000) (hn : kvs.lookup n = none) : ∃ H', DPut H a (.str n) (.int k) H' ∧ SameBut a H H' ∧ rDct (kvs ++ [(n, k)]) H' a := by
  refine ⟨_, DPut.k (k := Sum.inr n) h (by unfold dkv; rw [List.length_map]; exact Nat.lt_of_le_of_lt hl (by decide)), fun b o nb e => by rw [upd_ne nb]; exact e, ?_⟩
  unfold rDct
  rw [upd_same, putK_new _ (by rw [valV_dkv, hn]; rfl)]
  unfold dkv
  rw [List.map_append]
  rfl
theorem k_dIn {ty td : TE} (q : ty σ H fun y H1 => td σ H1 fun x H2 => ∃ a o, x = .ref a ∧ DGet H2 a y o ∧ Q (.bl o.isSome) H2) : tDIn ty td σ H Q := q
theorem k_dPut {td ty tv : TE} {D : Ends} (q : tv σ H fun v H1 => td σ H1 fun x H2 => ty σ H2 fun y H3 => ∃ a H4, x = .ref a ∧ DPut H3 a y v H4 ∧ D.nx σ H4) : sDPut td ty tv D σ H := q
theorem k_dNew (q : ∀ p, H p = none → Q (.ref p) (upd H p (.dK []))) : tDNewK σ H Q := q
theorem k_inD {kvs : List (Str × Int)} {a : Addr} {n : Str} (h : rDct kvs H a) (q : Q (.bl (kvs.lookup n).isSome) H) : ∃ b o, V.ref a = .ref b ∧ DGet H b (.str n) o ∧ Q (.bl o.isSome) H := ⟨a, _, rfl, k_dget h, by rw [Option.isSome_map]; exact q⟩
theorem call_listDK (hc : X.calm = true) : CallR X (.type "list") rListD := call_list_dK hc
end
end Pl

set_option Elab.async false
set_option linter.all false
set_option maxRecDepth 100000
set_option maxHeartbeats 2000000
/-! nested data: ints, texts, None, lists or tuples of such -/
namespace Pl
open PySem PySem.Spec PyProof.Rows L2 RZ
inductive Tr where
  | int (i : Int)
  | str (s : Str)
  | non
  | sq (ts : List Tr)
/-- b: the sequences are tuples; else they are lists or tuples -/
def sqB (b : Bool) (K : PySem.W.Frag) (H : Hp) (a : Addr) (vs : List V) : Prop := if b = true then SqT K H a vs else (H a = some (.lst vs) ∨ SqT K H a vs)
mutual
def TrV (b : Bool) (K : PySem.W.Frag) (H : Hp) : Tr → V → Prop
  | .int i, v => v = .int i
  | .str s, v => v = .str s ∧ PyData.strOk s = true
  | .non, v => v = .non
  | .sq ts, v => ∃ a vs, v = .ref a ∧ sqB b K H a vs ∧ TrVs b K H ts vs
def TrVs (b : Bool) (K : PySem.W.Frag) (H : Hp) : List Tr → List V → Prop
  | [], vs => vs = []
  | t :: ts, vs => ∃ v r, vs = v :: r ∧ TrV b K H t v ∧ TrVs b K H ts r
end
def rTr (b : Bool) : Rel Tr := fun K H v t => TrV b K H t v
theorem trVs_iff {b : Bool} {K : PySem.W.Frag} {H : Hp} : ∀ {ts : List Tr} {vs : List V}, TrVs b K H ts vs ↔ AllR (rTr b) K H vs ts
  | [], [] => ⟨fun _ => trivial, fun _ => rfl⟩
  | [], v :: vs => ⟨fun h => (by cases h), fun h => h.elim⟩
  | t :: ts, [] => ⟨fun ⟨_, _, h, _⟩ => (by cases h), fun h => h.elim⟩
  | t :: ts, v :: vs => ⟨fun ⟨_, _, h, h1, h2⟩ => by
      cases h
      exact ⟨h1, trVs_iff.mp h2⟩, fun h => ⟨v, vs, rfl, h.1, trVs_iff.mpr h.2⟩⟩
mutual
theorem trV_map {b : Bool} {K : PySem.W.Frag} {H H' : Hp} (f : ∀ a vs, sqB b K H a vs → sqB b K H' a vs) : ∀ (t : Tr) {v : V}, TrV b K H t v → TrV b K H' t v
  | .int i, v, h => h
  | .str s, v, h => h
  | .non, v, h => h
  | .sq ts, v, h => by
    obtain ⟨a, vs, e, h1, h2⟩ := h
    exact ⟨a, vs, e, f _ _ h1, trVs_map f ts h2⟩
theorem trVs_map {b : Bool} {K : PySem.W.Frag} {H H' : Hp} (f : ∀ a vs, sqB b K H a vs → sqB b K H' a vs) : ∀ (ts : List Tr) {vs : List V}, TrVs b K H ts vs → TrVs b K H' ts vs
  | [], vs, h => h
  | t :: ts, vs, h => by
    obtain ⟨v, r, e, h1, h2⟩ := h
    exact ⟨v, r, e, trV_map f t h1, trVs_map f ts h2⟩
end
theorem sqB_same {b : Bool} {K : PySem.W.Frag} {H H' : Hp} (s : Same H H') (a : Addr) (vs : List V) (h : sqB b K H a vs) : sqB b K H' a vs := by
  cases b
  · exact h.elim (fun h => .inl (s _ _ h)) fun h => .inr (s.seqT h)
  · exact s.seqT h
instance {b : Bool} : Car Same (rTr b) := ⟨fun {K H H' v x} s h => trV_map (fun a vs g => sqB_same s a vs g) x h⟩
instance : CarB (rTr true) := ⟨fun {K H H' D ws v x} e s h => trV_map (b := true) (fun a vs g => sb_tup s e g) x h⟩
def Dep : Nat → Tr → Prop
  | _, .int _ => True
  | _, .str _ => True
  | _, .non => True
  | 0, .sq _ => False
  | n + 1, .sq ts => ts.length ≤ 100000 ∧ ∀ t ∈ ts, Dep n t
theorem Dep.sq {n : Nat} {ts : List Tr} (h : Dep n (.sq ts)) : ∃ m, n = m + 1 ∧ ts.length ≤ 100000 ∧ ∀ t ∈ ts, Dep m t := by
  cases n with
  | zero => exact h.elim
  | succ m => exact ⟨m, rfl, h.1, h.2⟩
/-- its kind -/
theorem tyx_list {K : PySem.W.Frag} {H : Hp} {a : Addr} {vs : List V} (h : H a = some (.lst vs)) : TyX K H (.ref a) (.type "list") := .base (.lst h)
theorem tyx_tup {K : PySem.W.Frag} {H : Hp} {a : Addr} {vs : List V} (h : SqT K H a vs) : TyX K H (.ref a) (.type "tuple") := by
  rcases h with (h | ⟨o, h⟩) | ⟨o, its, n, hk, hc, _⟩
  · exact .base (.tup h)
  · exact .fTuple h
  · exact .kTuple hk hc
section
variable {K : PySem.W.Frag} {H : Hp} {Q : VK}
/-- isinstance(v, (list, tuple)) -/
theorem k_isLT {t : Tr} {v : V} {p : Addr} (h : TrV false K H t v) (hp : H p = some (.tup [.ty "list", .ty "tuple"])) (q : Q (.bl (match t with | .sq _ => true | _ => false)) H) : rIsiTK K [v, .ref p] H Q := by
  cases t with
  | int i =>
    cases h
    exact k_isiT (k1 := false) (k2 := false) hp (.base (.int i)) (by decide +kernel) (by decide +kernel) q
  | str s =>
    cases h.1
    exact k_isiT (k1 := false) (k2 := false) hp (.base (.str s)) (by decide +kernel) (by decide +kernel) q
  | non =>
    cases h
    exact k_isiT (k1 := false) (k2 := false) hp (.base .non) (by decide +kernel) (by decide +kernel) q
  | sq ts =>
    obtain ⟨a, vs, rfl, h1, _⟩ := h
    rcases h1 with h1 | h1
    · exact k_isiT (k1 := true) (k2 := false) hp (tyx_list h1) (by decide +kernel) (by decide +kernel) q
    · exact k_isiT (k1 := false) (k2 := true) hp (tyx_tup h1) (by decide +kernel) (by decide +kernel) q
theorem trQ {ts : List Tr} {v : V} (h : TrV false K H (.sq ts) v) : rQ (rTr false) K H v ts := by
  obtain ⟨a, vs, e, h1, h2⟩ := h
  refine ⟨a, vs, e, ?_, trVs_iff.mp h2⟩
  rcases h1 with h1 | h1
  · exact .inl (SqL.of h1)
  · exact .inr h1
theorem trT {ts : List Tr} {v : V} (h : rT (rTr true) K H v ts) : TrV true K H (.sq ts) v := by
  obtain ⟨a, vs, e, h1, h2⟩ := h
  exact ⟨a, vs, e, h1, trVs_iff.mpr h2⟩
/-! what a code's inputs are -/
abbrev Rgs := List (Int × Int)
def encP (p : Int × Int) : Tr := .sq [.int p.1, .int p.2]
def encR (rs : Rgs) : Tr := .sq (rs.map encP)
def encN (p : Str × Rgs) : Tr := .sq [.str p.1, encR p.2]
def encI (ins : List (Str × Rgs)) : Tr := .sq (ins.map encN)
theorem trVs_map2 {b : Bool} {α : Type} {r : Rel α} (f : α → Tr) (hf : ∀ v x, r K H v x → TrV b K H (f x) v) : ∀ {xs : List α} {vs : List V}, AllR r K H vs xs → TrVs b K H (xs.map f) vs
  | [], [], _ => rfl
  | x :: xs, v :: vs, h => ⟨v, vs, rfl, hf _ _ h.1, trVs_map2 f hf h.2⟩
  | [], _ :: _, h => h.elim
  | _ :: _, [], h => h.elim
theorem trVs_back {b : Bool} {α : Type} {r : Rel α} (f : α → Tr) (hf : ∀ v x, TrV b K H (f x) v → r K H v x) : ∀ {xs : List α} {vs : List V}, TrVs b K H (xs.map f) vs → AllR r K H vs xs
  | [], vs, h => by
    have h : vs = [] := h
    subst h
    trivial
  | x :: xs, vs, h => by
    obtain ⟨v, r, rfl, h1, h2⟩ := h
    exact ⟨hf _ _ h1, trVs_back f hf h2⟩
theorem encP_in {v : V} {p : Int × Int} (h : rPair rI rI K H v p) : TrV false K H (encP p) v := by
  obtain ⟨T, a, b, e, h1, h2, h3⟩ := h
  exact ⟨T, _, e, .inr h1, a, [b], rfl, h2, b, [], rfl, h3, rfl⟩
theorem encP_out {v : V} {p : Int × Int} (h : TrV true K H (encP p) v) : rPair rI rI K H v p := by
  obtain ⟨T, vs, e, h1, a, r, rfl, h2, b, r', rfl, h3, rfl⟩ := h
  exact ⟨T, a, b, e, h1, h2, h3⟩
theorem encR_in {v : V} {rs : Rgs} (h : rL (rPair rI rI) K H v rs) : TrV false K H (encR rs) v := by
  obtain ⟨a, vs, e, h1, h2⟩ := h
  exact ⟨a, vs, e, .inl h1, trVs_map2 encP (fun _ _ => encP_in) h2⟩
theorem encR_inT {v : V} {rs : Rgs} (h : rT (rPair rI rI) K H v rs) : TrV false K H (encR rs) v := by
  obtain ⟨a, vs, e, h1, h2⟩ := h
  exact ⟨a, vs, e, .inr h1, trVs_map2 encP (fun _ _ => encP_in) h2⟩
theorem encR_out {v : V} {rs : Rgs} (h : TrV true K H (encR rs) v) : rT (rPair rI rI) K H v rs := by
  obtain ⟨a, vs, e, h1, h2⟩ := h
  exact ⟨a, vs, e, h1, trVs_back encP (fun _ _ => encP_out) h2⟩
theorem encN_in {v : V} {p : Str × Rgs} (h : rPair rS (rL (rPair rI rI)) K H v p) : TrV false K H (encN p) v := by
  obtain ⟨T, a, b, e, h1, h2, h3⟩ := h
  exact ⟨T, _, e, .inr h1, a, [b], rfl, h2, b, [], rfl, encR_in h3, rfl⟩
theorem encN_out {v : V} {p : Str × Rgs} (h : TrV true K H (encN p) v) : rPair rS (rT (rPair rI rI)) K H v p := by
  obtain ⟨T, vs, e, h1, a, r, rfl, h2, b, r', rfl, h3, rfl⟩ := h
  exact ⟨T, a, b, e, h1, h2, encR_out h3⟩
theorem encI_in {v : V} {ins : List (Str × Rgs)} (h : rL (rPair rS (rL (rPair rI rI))) K H v ins) : TrV false K H (encI ins) v := by
  obtain ⟨a, vs, e, h1, h2⟩ := h
  exact ⟨a, vs, e, .inl h1, trVs_map2 encN (fun _ _ => encN_in) h2⟩
theorem encI_out {v : V} {ins : List (Str × Rgs)} (h : TrV true K H (encI ins) v) : rT (rPair rS (rT (rPair rI rI))) K H v ins := by
  obtain ⟨a, vs, e, h1, h2⟩ := h
  exact ⟨a, vs, e, h1, trVs_back encN (fun _ _ => encN_out) h2⟩
theorem dep_encI {ins : List (Str × Rgs)} (h : ins.length ≤ 100000) (h2 : ∀ p ∈ ins, p.2.length ≤ 100000) : Dep 6 (encI ins) := by
  refine ⟨by rw [List.length_map]; exact h, fun t ht => ?_⟩
  obtain ⟨p, hp, rfl⟩ := List.mem_map.mp ht
  refine ⟨by show 2 ≤ _; omega, fun t ht => ?_⟩
  rcases List.mem_cons.mp ht with rfl | ht
  · trivial
  rw [List.mem_singleton.mp ht]
  refine ⟨by rw [List.length_map]; exact h2 p hp, fun t ht => ?_⟩
  obtain ⟨q, hq, rfl⟩ := List.mem_map.mp ht
  refine ⟨by show 2 ≤ _; omega, fun t ht => ?_⟩
  rcases List.mem_cons.mp ht with rfl | ht
  · trivial
  rw [List.mem_singleton.mp ht]
  trivial
end
def tTupW (t : TA) : TE := fun σ H Q => t σ H fun xs H1 => xs.length ≤ sizeLine ∧ ∀ p, H1 p = none → Q (.ref p) (upd H1 p (.tup xs))
theorem pe_tupW {X : Cx} {es : List Expr} {t : TA} {x1} {pos : Pos} (h : PA X es t) : PE X (.Tuple es x1 pos) (tTupW t) := (pe_tup h.up).imp fun σ H Q q => ⟨_, q, fun xs H1 z => z⟩
theorem k_rawT {t : TA} {σ : L2.St} {H : Hp} {Q : VK} (q : t σ H fun xs H1 => xs.length ≤ sizeLine ∧ ∀ p, H1 p = none → Q (.ref p) (upd H1 p (.tup xs))) : tTupW t σ H Q := q
theorem fnOk_false {P : Program} {w : World} {K : PySem.W.Frag} {mg : Str → Option Value} {base : Heap} {CX : CXT} {k : Nat} {f : Addr} {fd : FuncData} {ps : List Str} : FnOk P w K mg base CX k f fd ps (fun _ _ _ _ => False) := ⟨fun _ _ _ _ h => h.elim, fun _ _ _ _ _ _ _ _ _ _ _ h => by first | exact h.elim | (intros; contradiction)⟩
end Pl

set_option Elab.async false
set_option linter.all false
set_option maxRecDepth 100000
set_option maxHeartbeats 4000000
namespace Pl
open PySem PySem.Spec PyProof.Rows L2 RZ
section
variable {P : Program} {w : World} {K : PySem.W.Frag} {mg : Str → Option Value} {base : Heap} [SupP P]
/-! the pen of these laws: a list of the script's numbers, and where it stands -/
def PW (H : Hp) (pen c : Addr) (n : Nat) : Prop := ∃ (zs : List Int) (i : Int), H pen = some (.lst [.ref c, .int i]) ∧ H c = some (.lst (zs.map V.int)) ∧ 0 < zs.length ∧ zs.length ≤ 63 ∧ 0 ≤ i ∧ i ≤ (n : Int)
def Kp (pen c : Addr) (H H' : Hp) : Prop := ∀ b o, b ≠ pen → b ≠ c → H b = some o → H' b = some o
theorem PW.mono {H : Hp} {pen c : Addr} {n m : Nat} (h : PW H pen c n) (l : n ≤ m) : PW H pen c m := by
  obtain ⟨zs, i, h1, h2, h3, h4, h5, h6⟩ := h
  exact ⟨zs, i, h1, h2, h3, h4, h5, by omega⟩
theorem PW.same {H H' : Hp} {pen c : Addr} {n : Nat} (s : Same H H') (h : PW H pen c n) : PW H' pen c n := by
  obtain ⟨zs, i, h1, h2, h3⟩ := h
  exact ⟨zs, i, s _ _ h1, s _ _ h2, h3⟩
theorem PW.but {H0 H H' : Hp} {pen c D : Addr} {n m : Nat} (h0 : PW H0 pen c m) (hD : H0 D = none) (b : SameBut D H H') (h : PW H pen c n) : PW H' pen c n := by
  obtain ⟨zs, i, h1, h2, h3⟩ := h
  obtain ⟨_, _, g1, g2, _⟩ := h0
  exact ⟨zs, i, b _ _ (ne_of_none g1 hD) h1, b _ _ (ne_of_none g2 hD) h2, h3⟩
theorem PW.ne {H : Hp} {pen c b : Addr} {n : Nat} (p : PW H pen c n) (h : H b = none) : b ≠ pen ∧ b ≠ c := by
  obtain ⟨_, _, g1, g2, _⟩ := p
  exact ⟨(ne_of_none g1 h).symm, (ne_of_none g2 h).symm⟩
theorem Kp.refl {pen c : Addr} {H : Hp} : Kp pen c H H := fun _ _ _ _ e => e
theorem Kp.of {pen c : Addr} {H H' : Hp} (s : Same H H') : Kp pen c H H' := fun b o _ _ e => s b o e
theorem Kp.trans {pen c : Addr} {H H1 H2 : Hp} (a : Kp pen c H H1) (b : Kp pen c H1 H2) : Kp pen c H H2 := fun x o n1 n2 e => b x o n1 n2 (a x o n1 n2 e)
theorem Kp.but {pen c D : Addr} {H H1 H2 : Hp} (s : Kp pen c H H1) (hD : H D = none) (b : SameBut D H1 H2) : Kp pen c H H2 := fun x o n1 n2 e => b x o (ne_of_none e hD) (s x o n1 n2 e)
theorem Kp.tup {pen c a : Addr} {H H' : Hp} {n : Nat} {xs : List V} (k : Kp pen c H H') (p : PW H pen c n) (h : SqT K H a xs) : SqT K H' a xs := by
  obtain ⟨zs, i, g1, g2, _⟩ := p
  rcases h with (h | ⟨o, h⟩) | h
  · exact .inl (.inl (k _ _ (ne_of h g1 (by intro z; cases z)) (ne_of h g2 (by intro z; cases z)) h))
  · exact .inl (.inr ⟨o, k _ _ (ne_of h g1 (by intro z; cases z)) (ne_of h g2 (by intro z; cases z)) h⟩)
  · exact .inr h
theorem Kp.ins {pen c a C dx : Addr} {H H' : Hp} {n : Nat} {fs : List (Str × V)} (k : Kp pen c H H') (p : PW H pen c n) (h : H a = some (.ins C dx fs)) : H' a = some (.ins C dx fs) := by
  obtain ⟨zs, i, g1, g2, _⟩ := p
  exact k _ _ (ne_of h g1 (by intro z; cases z)) (ne_of h g2 (by intro z; cases z)) h
def spDraw : Sp := fun vs H Q _ => ∃ (pen c : Addr) (n : Nat) (m : Int), vs = [.ref pen, .int m] ∧ PW H pen c n ∧ n ≤ 1000000000 ∧ 1 ≤ m ∧ m < 2 ^ 200 ∧ ∀ H' d, Kp pen c H H' → PW H' pen c (n + 1) → 0 ≤ d → d < m → Q (.int d) H'
theorem fmod_lo {a m : Int} (h : 1 ≤ m) : 0 ≤ a.fmod m := by
  rw [Int.fmod_eq_emod_of_nonneg a (by omega)]
  exact Int.emod_nonneg a (by omega)
theorem fmod_hi {a m : Int} (h : 1 ≤ m) : a.fmod m < m := by
  rw [Int.fmod_eq_emod_of_nonneg a (by omega)]
  exact Int.emod_lt_of_pos a (by omega)
theorem ok__law_draw (T : Txt K mg) : FnOk P w K mg base CX0 1 (He.fAd K ("_law_draw", none)) T.d__law_draw ["pen", "many"] spDraw := by
  refine FunD.ok T.fn__law_draw sc__law_draw (fun vs H Q E h => ?_) (fun cdv A outer s H vs Q E hr h => ?_)
  · obtain ⟨pen, c, n, m, rfl, _⟩ := h
    rfl
  · obtain ⟨pen, c, n, m, rfl, ⟨zs, i, hp, hc, hz0, hz, hi0, hi1⟩, hn, hm1, hm2, q⟩ := h
    refine ⟨_, PSs.nox (pss_cons (ps_set (i := 2) sc__law_draw.nd rfl (Or.inl rfl) (pe_ix (ix_listK (K := K)) (pv 0) pe_int (fun _ _ => rfl)))
  (pss_cons (ps_asg (pe_op op_add (pv 2) pe_int) (pg_sub (pv 0) pe_int set_list))
  (pss_cons (ps_set (i := 3) sc__law_draw.nd rfl (Or.inl rfl) (pe_op op_modN (pe_callTy call_int1 (by rfl) T.z_int (by decide +kernel) (pa_cons (pv 2) pa_nil)) (pe_callB (call_lenK (K := K)) (by rfl) T.z_len PySem.boot_len (pa_cons (pe_ix (ix_listK (K := K)) (pv 0) pe_int (fun _ _ => rfl)) pa_nil))))
  (pss_cons (ps_set (i := 4) sc__law_draw.nd rfl (Or.inl rfl) (pe_callTy call_int1 (by rfl) T.z_int (by decide +kernel) (pa_cons (pe_ix (ix_listK (K := K)) (pe_ix (ix_listK (K := K)) (pv 0) pe_int (fun _ _ => rfl)) (pv 3) (fun _ _ => rfl)) pa_nil)))
  (pss_cons (ps_if (pt_cmpR op_ge (pv 4) (pe_op op_pow pe_int pe_int) (nomark _))
  (pss_cons (ps_asg (pe_op op_fdivW (pv 4) (pv 1)) (pg_sub (pe_ix (ix_listK (K := K)) (pv 0) pe_int (fun _ _ => rfl)) (pv 3) set_list))
  (pss_one (ps_ret (pe_op op_modN (pe_callTy call_int1 (by rfl) T.z_int (by decide +kernel) (pa_cons (pv 4) pa_nil)) (pv 1)))))
  pss_nil)
  (pss_cons (ps_set (i := 5) sc__law_draw.nd rfl (Or.inl rfl) (pe_op op_pow (pe_callTy call_int1 (by rfl) T.z_int (by decide +kernel) (pa_cons (pe_op op_add (pe_op op_add (pe_op op_mul (pe_op op_modN (pe_callTy call_int1 (by rfl) T.z_int (by decide +kernel) (pa_cons (pv 4) pa_nil)) pe_int) pe_int) (pe_op op_mul (pv 2) pe_int)) pe_int) pa_nil)) pe_int))
  (pss_one (ps_ret (pe_op op_modN (pe_op op_fdivN (pe_callTy call_int1 (by rfl) T.z_int (by decide +kernel) (pa_cons (pe_op op_modN (pe_callTy call_int1 (by rfl) T.z_int (by decide +kernel) (pa_cons (pv 5) pa_nil)) pe_int) pa_nil)) pe_int) (pv 1)))))))))), ?_⟩
    have npc : pen ≠ c := ne_of hp hc (by
      intro z
      injection z with z
      cases zs with
      | nil => cases z
      | cons a r => cases z)
    refine ⟨_, rfl, _, _, _, _, rfl, rfl, SqL.of hp, atI_nat (j := 1) rfl, ?_⟩
    refine ⟨_, rfl, _, _, rfl, rfl, _, rfl, _, _, _, 1, rfl, rfl, hp, rfl, ?_⟩
    have hp1 : (upd H pen (.lst ([V.ref c, .int i].set 1 (.int (i + 1))))) pen = some (.lst [.ref c, .int (i + 1)]) := upd_same
    have hc1 : (upd H pen (.lst ([V.ref c, .int i].set 1 (.int (i + 1))))) c = some (.lst (zs.map V.int)) := by rw [upd_ne npc.symm]; exact hc
    have k1 : Kp pen c H (upd H pen (.lst ([V.ref c, .int i].set 1 (.int (i + 1))))) := fun b o n1 _ e => by rw [upd_ne n1]; exact e
    generalize upd H pen (.lst ([V.ref c, .int i].set 1 (.int (i + 1)))) = H1 at hp1 hc1 k1 ⊢
    have f0 := fmod_lo (a := i) (m := (zs.length : Int)) (by omega)
    have f1 := fmod_hi (a := i) (m := (zs.length : Int)) (by omega)
    have f2 : ((i.fmod (zs.length : Int)).toNat : Int) = i.fmod (zs.length : Int) := Int.toNat_of_nonneg f0
    have hat : (i.fmod (zs.length : Int)).toNat < zs.length := by omega
    generalize hk : (i.fmod (zs.length : Int)).toNat = k at *
    refine ⟨_, rfl, .inl ⟨_, rfl, _, rfl, _, _, _, _, rfl, rfl, SqL.of hp1, atI_nat (j := 0) rfl, _, _, rfl, .inl (SqL.of hc1), _, _, rfl, rfl, ?_, ?_⟩⟩
    · rw [List.length_map]
      omega
    have hkk : i.fmod ((zs.map V.int).length : Int) = (k : Int) := by rw [List.length_map]; exact f2.symm
    refine ⟨_, rfl, _, _, _, _, rfl, rfl, SqL.of hp1, atI_nat (j := 0) rfl, _, rfl, _, _, _, _, rfl, rfl, SqL.of hc1, at_ints (n := k) hkk hat, .inl ⟨_, rfl, ?_⟩⟩
    refine ⟨_, rfl, _, _, rfl, rfl, ⟨by decide, by decide, by decide⟩, _, _, rfl, rfl, _, rfl, iteB (fun _ => ?_) fun _ => ?_⟩
    · refine ⟨_, rfl, _, rfl, _, _, rfl, rfl, wide_div (b := 200) (by omega) (by omega) (by decide) (by decide), ?_⟩
      refine ⟨_, rfl, _, _, _, _, rfl, rfl, SqL.of hp1, atI_nat (j := 0) rfl, _, rfl, _, _, _, k, rfl, rfl, hc1, ?_, ?_⟩
      · show ixN (zs.map V.int).length (i.fmod ((zs.map V.int).length : Int)) = some k
        rw [hkk]
        unfold ixN
        rw [List.length_map, if_pos (by omega), if_pos (by omega), Int.toNat_natCast]
      refine ⟨_, rfl, .inl ⟨_, rfl, _, rfl, _, _, rfl, rfl, by omega, ?_⟩⟩
      refine q _ _ (fun b o n1 n2 e => by rw [upd_ne n2]; exact k1 b o n1 n2 e) ⟨zs.set k (zs.getD k 0 / m), i + 1, by rw [upd_ne npc]; exact hp1, ?_, by rw [List.length_set]; exact hz0, by rw [List.length_set]; exact hz, by omega, by omega⟩ (fmod_lo hm1) (fmod_hi hm1)
      rw [upd_same, List.map_set]
    · have l0 := fmod_lo (a := zs.getD k 0) (m := 1000000007) (by decide)
      have l1 := fmod_hi (a := zs.getD k 0) (m := 1000000007) (by decide)
      have sb : ((zs.getD k 0).fmod 1000000007 * 48271 + i * 7919 + 104729).natAbs < 2 ^ 64 := by omega
      refine ⟨_, rfl, .inl ⟨_, rfl, _, _, rfl, rfl, (show (1000000007 : Int) ≠ 0 by decide), _, _, rfl, rfl, .inr ⟨by decide, by decide⟩, _, rfl, _, _, rfl, rfl, .inr ⟨by decide, by decide⟩, _, _, rfl, rfl, _, _, rfl, rfl, .inl ⟨_, rfl, ?_⟩⟩⟩
      refine ⟨_, _, rfl, rfl, ⟨by decide, by decide, sb⟩, ?_⟩
      refine ⟨_, rfl, .inl ⟨_, rfl, _, _, rfl, rfl, (show (2147483647 : Int) ≠ 0 by decide), .inl ⟨_, rfl, _, _, rfl, rfl, ⟨by decide, by decide⟩, _, rfl, _, _, rfl, rfl, by omega, ?_⟩⟩⟩
      exact q _ _ k1 ⟨zs, i + 1, hp1, hc1, hz0, hz, by omega, by omega⟩ (fmod_lo hm1) (fmod_hi hm1)
end
end Pl

set_option Elab.async false
set_option linter.all false
set_option maxRecDepth 100000
set_option maxHeartbeats 4000000
namespace Pl
open PySem PySem.Spec PyProof.Rows L2 RZ
section
variable {P : Program} {w : World} {K : PySem.W.Frag} {mg : Str → Option Value} {base : Heap} [SupP P]
def spNumber : Sp := fun vs H Q _ => ∃ (pen c : Addr) (n : Nat), vs = [.ref pen] ∧ PW H pen c n ∧ n ≤ 10000000 ∧ ∀ H' (z : Int), Kp pen c H H' → PW H' pen c (n + 6) → z.natAbs < 2 ^ 130 → Q (.int z) H'
theorem ok__law_number (T : Txt K mg) : FnOk P w K mg base CX0 2 (He.fAd K ("_law_number", none)) T.d__law_number ["pen"] spNumber := by
  refine FunD.ok T.fn__law_number sc__law_number (fun vs H Q E h => ?_) (fun cdv A outer s H vs Q E hr h => ?_)
  · obtain ⟨pen, c, n, rfl, _⟩ := h
    rfl
  · obtain ⟨pen, c, n, rfl, p, hn, q⟩ := h
    refine ⟨_, PSs.nox (pss_cons (ps_set (i := 1) sc__law_number.nd rfl (Or.inl rfl) (pe_call (ok__law_draw T) (hr.mono (by decide)) (by rfl) T.m__law_draw T.fn__law_draw.kp T.b__law_draw .nil pass0 (pa_cons (pv 0) (pa_cons pe_int pa_nil))))
  (pss_cons (ps_if (pt_cmpR op_lt (pv 1) pe_int (nomark _))
  (pss_one (ps_ret (pe_op op_sub (pe_call (ok__law_draw T) (hr.mono (by decide)) (by rfl) T.m__law_draw T.fn__law_draw.kp T.b__law_draw .nil pass0 (pa_cons (pv 0) (pa_cons pe_int pa_nil))) pe_int)))
  pss_nil)
  (pss_cons (ps_set (i := 2) sc__law_number.nd rfl (Or.inl rfl) (pe_call (ok__law_draw T) (hr.mono (by decide)) (by rfl) T.m__law_draw T.fn__law_draw.kp T.b__law_draw .nil pass0 (pa_cons (pv 0) (pa_cons pe_int pa_nil))))
  (pss_cons (ps_ifJ (pt_cmpR op_gt (pv 1) pe_int (nomark _))
  (pss_one (ps_set (i := 2) sc__law_number.nd rfl (Or.inl rfl) (pe_op op_add (pe_op op_mul (pv 2) pe_int) (pe_call (ok__law_draw T) (hr.mono (by decide)) (by rfl) T.m__law_draw T.fn__law_draw.kp T.b__law_draw .nil pass0 (pa_cons (pv 0) (pa_cons pe_int pa_nil))))))
  pss_nil)
  (pss_cons (ps_ifJ (pt_cmpR op_gt (pv 1) pe_int (nomark _))
  (pss_one (ps_set (i := 2) sc__law_number.nd rfl (Or.inl rfl) (pe_op op_add (pe_op op_mul (pv 2) (pe_op op_pow pe_int pe_int)) (pe_call (ok__law_draw T) (hr.mono (by decide)) (by rfl) T.m__law_draw T.fn__law_draw.kp T.b__law_draw .nil pass0 (pa_cons (pv 0) (pa_cons pe_int pa_nil))))))
  pss_nil)
  (pss_one (ps_ret (pe_ifExpJ (pt_cmpR op_eq (pe_call (ok__law_draw T) (hr.mono (by decide)) (by rfl) T.m__law_draw T.fn__law_draw.kp T.b__law_draw .nil pass0 (pa_cons (pv 0) (pa_cons pe_int pa_nil))) pe_int (nomark _)) (pe_un un_neg (pv 2)) (pv 2))))))))), ?_⟩
    refine ⟨_, rfl, pen, c, n, 8, rfl, p, by omega, by omega, by omega, fun H1 d1 k1 p1 l1 u1 => ?_⟩
    refine ⟨_, rfl, _, _, rfl, rfl, _, rfl, iteB (fun _ => ?_) fun _ => ?_⟩
    · refine ⟨_, rfl, pen, c, n + 1, 9, rfl, p1, by omega, by omega, by omega, fun H2 d2 k2 p2 l2 u2 => ⟨_, _, rfl, rfl, q H2 _ (k1.trans k2) (p2.mono (by omega)) (by omega)⟩⟩
    refine ⟨_, rfl, pen, c, n + 1, 1000003, rfl, p1, by omega, by omega, by omega, fun H2 d2 k2 p2 l2 u2 => ?_⟩
    refine ⟨fun σ' H' => ∃ f : Int, σ' = [some (.ref pen), some (.int d1), some (.int f)] ∧ Kp pen c H H' ∧ PW H' pen c (n + 3) ∧ 0 ≤ f ∧ f < 2 ^ 50, ?_, ?_⟩
    · refine ⟨_, rfl, _, _, rfl, rfl, _, rfl, iteB (fun _ => ?_) fun _ => ⟨d2, rfl, k1.trans k2, p2.mono (by omega), by omega, by omega⟩⟩
      refine ⟨_, rfl, _, _, rfl, rfl, .inl ⟨by omega, by omega⟩, _, rfl, pen, c, n + 2, 1000003, rfl, p2, by omega, by omega, by omega, fun H3 d3 k3 p3 l3 u3 => ⟨_, _, rfl, rfl, _, rfl, (k1.trans k2).trans k3, p3, by omega, by omega⟩⟩
    rintro σ' H3 ⟨f, rfl, k3, p3, f0, f1⟩
    refine ⟨fun σ' H' => ∃ f : Int, σ' = [some (.ref pen), some (.int d1), some (.int f)] ∧ Kp pen c H H' ∧ PW H' pen c (n + 4) ∧ 0 ≤ f ∧ f < 2 ^ 120, ?_, ?_⟩
    · refine ⟨_, rfl, _, _, rfl, rfl, _, rfl, iteB (fun _ => ?_) fun _ => ⟨f, rfl, k3, p3.mono (by omega), by omega, by omega⟩⟩
      refine ⟨_, rfl, _, _, rfl, rfl, ⟨by decide, by decide, by decide⟩, _, _, rfl, rfl, .inl ⟨by omega, by omega⟩, _, rfl, pen, c, n + 3, 1000003, rfl, p3, by omega, by omega, by omega, fun H4 d4 k4 p4 l4 u4 => ⟨_, _, rfl, rfl, f * 10 ^ 18 + d4, rfl, k3.trans k4, p4, by omega, by omega⟩⟩
    rintro σ' H4 ⟨f, rfl, k4, p4, f0, f1⟩
    refine ⟨fun v H' => ∃ z : Int, v = .int z ∧ Kp pen c H H' ∧ PW H' pen c (n + 5) ∧ z.natAbs < 2 ^ 130, ⟨_, rfl, pen, c, n + 4, 2, rfl, p4, by omega, by omega, by omega, fun H5 d5 k5 p5 _ _ => ⟨rfl, _, rfl, iteB (fun _ => ?_) fun _ => ?_⟩⟩, ?_⟩
    · exact ⟨_, rfl, _, rfl, _, rfl, k4.trans k5, p5, by omega⟩
    · exact ⟨_, rfl, _, rfl, k4.trans k5, p5, by omega⟩
    · rintro v H5 ⟨z, rfl, k5, p5, hz⟩
      exact q H5 z k5 (p5.mono (by omega)) hz
def spWidths (K : PySem.W.Frag) : Sp := fun vs H Q _ => ∃ (pen c : Addr) (n : Nat), vs = [.ref pen] ∧ PW H pen c n ∧ n ≤ 10000000 ∧ ∀ H' t (w m : Nat), Kp pen c H H' → PW H' pen c (n + 4) → SqT K H' t [.int w, .int m] → 1 ≤ w → w ≤ 64 → m ≤ 64 → Q (.ref t) H'
end
end Pl

set_option Elab.async false
set_option linter.all false
set_option maxRecDepth 100000
set_option maxHeartbeats 4000000
namespace Pl
open PySem PySem.Spec PyProof.Rows L2 RZ
section
variable {P : Program} {w : World} {K : PySem.W.Frag} {mg : Str → Option Value} {base : Heap} [SupP P]
local macro_rules | `(tactic| exists cgs) => `(tactic| repeat (first | with_reducible apply cg.md | with_reducible apply cg.add | with_reducible apply cg.sub | with_reducible apply cg.mul | with_reducible apply cg.neg | with_reducible exact cg.rf))
local macro_rules | `(tactic| exists cgm) => `(tactic| (apply cg.em; (focus exists cgs); (focus exists cgs); (focus grind)))
local macro_rules | `(tactic| exists hp) => `(tactic| first | assumption | (apply WrapAt.same; (focus assumption); exists hp) | (apply Same.seqT; (focus assumption); exists hp) | (apply Same.seq; (focus assumption); exists hp) | (apply Same.sq; (focus assumption); exists hp) | ((with_reducible apply same_at); (focus assumption); exists hp) | ((with_reducible apply same_trans); (focus assumption); exists hp) | (with_reducible exact Same.refl _))
local macro_rules | `(tactic| exists st) => `(tactic| first | ((with_reducible apply k_var); (focus exact rfl)) | (with_reducible refine k_c ?_) | (with_reducible refine k_op ?_) | (with_reducible refine k_un ?_) | (with_reducible refine k_test ?_) | (with_reducible refine k_tB ?_) | (with_reducible refine k_not ?_) | (with_reducible refine k_or ?_) | (with_reducible refine k_and ?_) | (with_reducible refine k_yes ?_) | (with_reducible refine k_andV ?_) | (with_reducible refine k_orV ?_) | (with_reducible refine k_notV ?_) | (with_reducible refine k_if ?_) | (with_reducible refine k_seq ?_) | (with_reducible refine k_next ?_) | (with_reducible refine k_drop ?_) | (with_reducible refine k_ret ?_) | (with_reducible refine k_retN ?_) | (with_reducible refine k_ifS ?_) | (with_reducible refine k_asg ?_) | (with_reducible refine k_name ?_) | (with_reducible refine k_nil ?_) | (with_reducible refine k_cons ?_) | (with_reducible refine k_call ?_) | (with_reducible refine k_cb ?_) | (with_reducible refine k_lst ?_) | (with_reducible refine k_tup ?_) | (with_reducible refine k_bl ?_) | (with_reducible refine k_i0 ?_) | (with_reducible refine k_u ?_) | (with_reducible refine k_eqI ?_) | (with_reducible refine k_eqB ?_) | (with_reducible refine k_neI ?_) | (with_reducible refine k_ifT ?_) | (with_reducible refine k_ifF ?_) | (with_reducible refine k_ifnT ?_) | (with_reducible refine k_ifnF ?_) | (with_reducible refine k_bl2 ?_) | (with_reducible refine k_ifdR ?_) | (with_reducible refine k_ifndR ?_) | (with_reducible refine k_int ?_) | (with_reducible refine k_ref ?_) | (with_reducible refine k_isB ?_) | (with_reducible refine k_meth ?_) | (with_reducible refine k_fld ?_))
local macro_rules | `(tactic| exists go) => `(tactic| repeat (exists st))
local macro_rules | `(tactic| exists yes) => `(tactic| first | (with_reducible refine k_ifdT (by first | rfl | omega) ?_) | (with_reducible refine k_ifndF (by first | rfl | omega) ?_))
local macro_rules | `(tactic| exists no) => `(tactic| first | (with_reducible refine k_ifdF (by omega) ?_) | (with_reducible refine k_ifndT (by omega) ?_))
local macro_rules | `(tactic| exists st) => `(tactic| first | ((with_reducible apply k_var); (focus exact rfl)) | (with_reducible refine k_c ?_) | (with_reducible refine k_op ?_) | (with_reducible refine k_un ?_) | (with_reducible refine k_test ?_) | (with_reducible refine k_tB ?_) | (with_reducible refine k_not ?_) | (with_reducible refine k_or ?_) | (with_reducible refine k_and ?_) | (with_reducible refine k_yes ?_) | (with_reducible refine k_andV ?_) | (with_reducible refine k_orV ?_) | (with_reducible refine k_notV ?_) | (with_reducible refine k_if ?_) | (with_reducible refine k_seq ?_) | (with_reducible refine k_next ?_) | (with_reducible refine k_drop ?_) | (with_reducible refine k_ret ?_) | (with_reducible refine k_retN ?_) | (with_reducible refine k_ifS ?_) | (with_reducible refine k_asg ?_) | (with_reducible refine k_name ?_) | (with_reducible refine k_nil ?_) | (with_reducible refine k_cons ?_) | (with_reducible refine k_call ?_) | (with_reducible refine k_cb ?_) | (with_reducible refine k_lst ?_) | (with_reducible refine k_tup ?_) | (with_reducible refine k_bl ?_) | (with_reducible refine k_i0 ?_) | (with_reducible refine k_u ?_) | (with_reducible refine k_eqI ?_) | (with_reducible refine k_eqB ?_) | (with_reducible refine k_neI ?_) | (with_reducible refine k_ifT ?_) | (with_reducible refine k_ifF ?_) | (with_reducible refine k_ifnT ?_) | (with_reducible refine k_ifnF ?_) | (with_reducible refine k_bl2 ?_) | (with_reducible refine k_ifdR ?_) | (with_reducible refine k_ifndR ?_) | (with_reducible refine k_int ?_) | (with_reducible refine k_ref ?_) | (with_reducible refine k_isB ?_) | (with_reducible refine k_meth ?_) | (with_reducible refine k_fld ?_) | (with_reducible refine k_callS ?_) | (with_reducible refine k_methS ?_) | (with_reducible refine k_opS ?_) | (with_reducible refine k_smethS ?_) | (with_reducible refine k_atEnd ?_) | (with_reducible refine k_atRt ?_) | (with_reducible refine k_nonR ?_) | (with_reducible refine k_makeS ?_) | (with_reducible refine k_make ?_) | (with_reducible refine k_refnon ?_) | (with_reducible refine k_par ?_) | (with_reducible refine k_par3 ?_) | (with_reducible refine k_two ?_) | (with_reducible refine k_three ?_) | (with_reducible refine k_smeth ?_) | (with_reducible refine k_self ?_) | (with_reducible refine k_neS ?_) | (with_reducible refine k_eqS ?_) | (with_reducible refine k_chain ?_) | ((with_reducible apply k_newT); (focus exact Nat.le_of_ble_eq_true rfl); intro _ _ _ _) | ((with_reducible apply k_newL); (focus exact Nat.le_of_ble_eq_true rfl); intro _ _ _ _ _))
local macro_rules | `(tactic| exists st) => `(tactic| first | (with_reducible refine k_ex1 ?_) | (with_reducible refine k_ex0 ?_) | (with_reducible refine k_lcR1 ?_) | (with_reducible refine k_lcR2 ?_) | (with_reducible refine k_lcL ?_) | (with_reducible refine k_lcT ?_) | (with_reducible refine k_lcQ ?_) | (with_reducible refine k_neB ?_) | (with_reducible refine k_bits ?_) | (with_reducible refine k_prop ?_) | (with_reducible refine k_sl ?_) | (with_reducible refine k_noPart ?_) | (with_reducible refine k_part ?_))
local macro_rules | `(tactic| exists sd) => `(tactic| first | exact ⟨by decide, by decide⟩ | exact Or.inr ⟨by decide, by decide⟩ | exact Or.inl ⟨by decide, by decide⟩ | exact ⟨by decide, by decide, by decide⟩ | exact Or.inl ⟨by omega, by omega⟩ | exact Or.inr ⟨by omega, by omega⟩ | exact ⟨by omega, by omega⟩ | decide | omega)
local macro_rules | `(tactic| exists st) => `(tactic| ((with_reducible apply k_iC); (focus exists sd)))
local macro_rules | `(tactic| exists hp) => `(tactic| first | assumption | ((with_reducible apply carS); (focus assumption); exists hp) | ((with_reducible apply carK); (focus assumption); exists hp) | ((with_reducible apply rL_q); exists hp) | ((with_reducible apply rT_q); exists hp))
local macro_rules | `(tactic| exists st) => `(tactic| first | (with_reducible refine k_forEn ?_) | (with_reducible refine k_forEnK ?_) | (with_reducible refine k_forZipQ ?_) | (with_reducible refine k_lcEn ?_) | (with_reducible refine k_lcZipQ ?_))
local macro_rules | `(tactic| exists st) => `(tactic| first | (with_reducible refine k_tupZip ?_))
local macro_rules | `(tactic| exists st) => `(tactic| first | (with_reducible refine k_rawT ?_) | (with_reducible refine k_tJoin ?_) | (with_reducible refine k_lcStr ?_) | (with_reducible refine k_dIn ?_) | (with_reducible refine k_dPut ?_) | (with_reducible refine k_dNew ?_))
local macro_rules | `(tactic| exists hp) => `(tactic| first | assumption | ((with_reducible apply carS); (focus assumption); exists hp) | ((with_reducible apply carM); (focus assumption); exists hp) | ((with_reducible apply rL_q); exists hp) | ((with_reducible apply rT_q); exists hp))
def spCopy (K : PySem.W.Frag) (n : Nat) : Sp := fun vs H Q _ => ∃ v t, vs = [v] ∧ TrV false K H t v ∧ Dep n t ∧ ∀ H' w, Same H H' → TrV true K H' t w → Q w H'
def spCopyIn (K : PySem.W.Frag) : Nat → Sp
  | 0 => fun _ _ _ _ => False
  | n + 1 => spCopy K n
theorem copied_step (T : Txt K mg) {n : Nat} (F : FnOk P w K mg base CX0 n (He.fAd K ("_copied", none)) T.d__copied ["worth"] (spCopyIn K n)) : FnOk P w K mg base CX0 (n + 1) (He.fAd K ("_copied", none)) T.d__copied ["worth"] (spCopy K n) := by
  refine FunD.ok T.fn__copied sc__copied (fun vs H Q E h => ?_) (fun cdv A outer s H vs Q E hr h => ?_)
  · obtain ⟨v, t, rfl, _⟩ := h
    rfl
  · obtain ⟨v, t, rfl, ht, hd, q⟩ := h
    refine ⟨_, PSs.nox (pss_cons (ps_if (pt_val (pe_callB (call_isiTK (K := K)) (by rfl) T.z_isinstance (by decide +kernel) (pa_cons (pv 0) (pa_cons (pe_tupW (pa_cons (pe_bltn (v := .ty "list") (u := .type "list") (by rfl) T.z_list (by decide +kernel) rfl) (pa_cons (pe_bltn (v := .ty "tuple") (u := .type "tuple") (by rfl) T.z_tuple (by decide +kernel) rfl) pa_nil))) pa_nil))))
  (pss_one (ps_ret (pe_callTy (call_tupleK (K := K)) (by rfl) T.z_tuple (by decide +kernel) (pa_cons (pe_lcN (own := [("part", 1)]) rfl sc__copied.nd (pi_sqB (K := K) (pv 0)) (blkOk_by (own := [("part", 1)]) (N := ["worth", "part"]) (sc := defScope s__copied) (by decide +kernel)) (fun _ _ _ _ _ => (pg_name (i := 1) sc__copied.nd rfl (Or.inl rfl))) (fun _ _ _ _ _ => pts_nil) (fun _ _ _ _ _ => (pe_call F (hr.mono (by omega)) (by rfl) T.m__copied T.fn__copied.kp T.b__copied .nil pass0 (pa_cons (pv 1) pa_nil)))) pa_nil))))
  pss_nil)
  (pss_one (ps_ret (pv 0)))), ?_⟩
    exists go
    refine ⟨by decide, fun p hp => ?_⟩
    exists go
    have s1 : Same H (upd H p (.tup [.ty "list", .ty "tuple"])) := same_upd hp
    have e1 : upd H p (.tup [.ty "list", .ty "tuple"]) p = some (.tup [.ty "list", .ty "tuple"]) := upd_same
    generalize upd H p (.tup [.ty "list", .ty "tuple"]) = H1 at s1 e1 ⊢
    have ht1 : TrV false K H1 t v := carS (r := rTr false) s1 ht
    refine k_isLT ht1 e1 ?_
    cases t with
    | sq ts =>
      obtain ⟨m, rfl, hl, hm⟩ := hd.sq
      exists go
      refine k_lcMQ (r := rTr false) (s := rTr true) (K := K) id (trQ ht1) hl (fun t w H2 X Z ht2 hw s2 hX => ?_) fun H2 D s2 hD hL => ?_
      · exists go
        refine ⟨rfl, ?_⟩
        exists go
        exact ⟨w, t, rfl, hw, hm t ht2, fun H3 w' s3 h3 => hX H3 w' s3 h3⟩
      · rw [List.map_id] at hL
        exists go
        refine k_tupleR (r := rTr true) (K := K) (rL_q hL) fun H3 D3 s3 h3 => ?_
        exact q H3 _ (s1.trans (s2.trans s3)) (trT h3)
    | int i =>
      exists go
      exact q H1 v s1 (carS (r := rTr true) s1 ht)
    | str i =>
      exists go
      exact q H1 v s1 (carS (r := rTr true) s1 ht)
    | non =>
      exists go
      exact q H1 v s1 (carS (r := rTr true) s1 ht)
theorem copied_n (T : Txt K mg) : ∀ n, FnOk P w K mg base CX0 (n + 1) (He.fAd K ("_copied", none)) T.d__copied ["worth"] (spCopy K n)
  | 0 => copied_step T fnOk_false
  | n + 1 => copied_step T (copied_n T n)
theorem ok__copied (T : Txt K mg) : FnOk P w K mg base CX0 7 (He.fAd K ("_copied", none)) T.d__copied ["worth"] (spCopy K 6) := copied_n T 6
end
end Pl

set_option Elab.async false
set_option linter.all false
set_option maxRecDepth 100000
/-! a block cut in two: J holds where the first part hands on -/
namespace Pl
open PySem PySem.Spec PyProof.Rows L2 RZ
structure PSc (X : Cx) (st : List Stmt) (t : TS) : Prop where
  run : ∀ (rest : List Stmt) (pins : List (Addr × Obj)) (s : Shared) (σ : L2.St) (H : Hp) (D : Ends) (J : L2.St → Hp → Prop), Inv X pins σ H s → t { D with nx := J } σ H →
    (∀ s' σ' H', Inv X pins σ' H' s' → J σ' H' → wpAny (model X.prog X.w) X.A (execs rest X.env) (SP X pins D) X.xe s') → wpAny (model X.prog X.w) X.A (execs (st ++ rest) X.env) (SP X pins D) X.xe s
theorem pcs_one {X : Cx} {st : Stmt} {t : TS} (h1 : PS X st t) : PSc X [st] t := by
  refine ⟨fun rest pins s σ H D J I h k => ?_⟩
  show wpAny _ _ (execs (st :: rest) X.env) _ _ _
  refine wpAny_execs_cons (thn (h1.run pins s σ H { D with nx := J } I h) fun f s1 q => ?_)
  cases f with
  | next =>
    obtain ⟨σ', H', I', q⟩ := q
    exact k s1 σ' H' I' q
  | ret v => exact q
  | brk => exact q
  | cont => exact q
theorem pcs_cons {X : Cx} {st : Stmt} {more : List Stmt} {t u : TS} (h1 : PS X st t) (h2 : PSc X more u) : PSc X (st :: more) (tSeq t u) := by
  refine ⟨fun rest pins s σ H D J I h k => ?_⟩
  show wpAny _ _ (execs (st :: (more ++ rest)) X.env) _ _ _
  refine wpAny_execs_cons (thn (h1.run pins s σ H { D with nx := u { D with nx := J } } I h) fun f s1 q => ?_)
  cases f with
  | next =>
    obtain ⟨σ', H', I', q⟩ := q
    exact h2.run rest pins s1 σ' H' D J I' q k
  | ret v => exact q
  | brk => exact q
  | cont => exact q
theorem pss_app {X : Cx} {l : List Stmt} {t u : TS} (n : Nat) (h1 : PSc X (l.take n) t) (h2 : PSs X (l.drop n) u) : PSs X l (tCut t u) := by
  refine ⟨fun pins s σ H D I ⟨J, h, f⟩ => ?_⟩
  have := h1.run (l.drop n) pins s σ H D J I h fun s' σ' H' I' q => h2.run pins s' σ' H' D I' (f _ _ q)
  rwa [List.take_append_drop] at this
end Pl

set_option Elab.async false
set_option linter.all false
namespace Pl
open PySem PySem.Spec PyProof.Rows L2 RZ
section
variable {α : Type} {K : PySem.W.Frag} {H : Hp} {Q : VK}
theorem k_inT (r : Rel α) [d : DataR r] [DecidableEq α] {v w : V} {x : α} {xs : List α} (h1 : r K H v x) (h2 : rL r K H w xs) (hx : x ∈ xs) (q : Q (.bl true) H) (hn : d.n ≤ 63 := by decide) : rInD K v w H Q :=
  k_inR r h1 h2 (by rw [decide_eq_true hx]; exact q) hn
theorem k_inF (r : Rel α) [d : DataR r] [DecidableEq α] {v w : V} {x : α} {xs : List α} (h1 : r K H v x) (h2 : rL r K H w xs) (hx : ¬ x ∈ xs) (q : Q (.bl false) H) (hn : d.n ≤ 63 := by decide) : rInD K v w H Q :=
  k_inR r h1 h2 (by rw [decide_eq_false hx]; exact q) hn
theorem k_notInT (r : Rel α) [d : DataR r] [DecidableEq α] {v w : V} {x : α} {xs : List α} (h1 : r K H v x) (h2 : rL r K H w xs) (hx : x ∈ xs) (q : Q (.bl false) H) (hn : d.n ≤ 63 := by decide) : rNotInD K v w H Q :=
  k_notInR r h1 h2 (by rw [decide_eq_true hx]; exact q) hn
theorem k_notInF (r : Rel α) [d : DataR r] [DecidableEq α] {v w : V} {x : α} {xs : List α} (h1 : r K H v x) (h2 : rL r K H w xs) (hx : ¬ x ∈ xs) (q : Q (.bl true) H) (hn : d.n ≤ 63 := by decide) : rNotInD K v w H Q :=
  k_notInR r h1 h2 (by rw [decide_eq_false hx]; exact q) hn
theorem k_eqT' (r : Rel α) [d : DataR r] [DecidableEq α] {v w : V} {x : α} (h1 : r K H v x) (h2 : r K H w x) (q : Q (.bl true) H) (hn : d.n ≤ 64 := by decide) : rEqD K v w H Q :=
  k_eqR r h1 h2 (by rw [decide_eq_true rfl]; exact q) hn
theorem k_neF' (r : Rel α) [d : DataR r] [DecidableEq α] {v w : V} {x : α} (h1 : r K H v x) (h2 : r K H w x) (q : Q (.bl false) H) (hn : d.n ≤ 64 := by decide) : rNeD K v w H Q :=
  k_neR r h1 h2 (by rw [decide_eq_true rfl]; exact q) hn
end
end Pl

set_option Elab.async false
set_option linter.all false
set_option maxRecDepth 100000
/-! the first lanes of a product: a form in each of the two rows -/
namespace Pl
def sumT (g : Nat → Int) : Nat → Int
  | 0 => 0
  | t + 1 => sumT g t + g t
theorem sumT_congr {g h : Nat → Int} : ∀ {t : Nat}, (∀ j, j < t → g j = h j) → sumT g t = sumT h t
  | 0, _ => rfl
  | t + 1, e => by
    show sumT g t + g t = sumT h t + h t
    rw [sumT_congr fun j hj => e j (by omega), e t (by omega)]
theorem sumT_zero {g : Nat → Int} : ∀ {t : Nat}, (∀ j, j < t → g j = 0) → sumT g t = 0
  | 0, _ => rfl
  | t + 1, e => by
    show sumT g t + g t = 0
    rw [sumT_zero fun j hj => e j (by omega), e t (by omega)]
    rfl
theorem sumT_more {g : Nat → Int} {s : Nat} : ∀ {t : Nat}, s ≤ t → (∀ j, s ≤ j → j < t → g j = 0) → sumT g t = sumT g s
  | 0, h, _ => by rw [Nat.le_zero.mp h]
  | t + 1, h, e => by
    rcases Nat.lt_or_ge t s with l | l
    · rw [show s = t + 1 by omega]
    · show sumT g t + g t = _
      rw [sumT_more l fun j a b => e j a (by omega), e t l (by omega), Int.add_zero]
theorem dotL_snoc : ∀ {ns xs : List Int} (n x : Int), ns.length = xs.length → dotL (ns ++ [n]) (xs ++ [x]) = dotL ns xs + n * x
  | [], [], n, x, _ => by
    show dotL [n] [x] = 0 + n * x
    rw [dotL_cons]
    show n * x + 0 = _
    omega
  | m :: ns, y :: xs, n, x, h => by
    rw [List.cons_append, List.cons_append, dotL_cons, dotL_cons, dotL_snoc n x (Nat.succ.inj h)]
    omega
  | [], _ :: _, _, _, h => by cases h
  | _ :: _, [], _, _, h => by cases h
theorem dotL_sumT {ns xs : List Int} : ∀ {t : Nat}, t ≤ ns.length → t ≤ xs.length → dotL (ns.take t) (xs.take t) = sumT (fun j => ns.getD j 0 * xs.getD j 0) t
  | 0, _, _ => by rw [List.take_zero, List.take_zero]; rfl
  | t + 1, h1, h2 => by
    have e1 := at_getD (0 : Int) (show t < ns.length by omega)
    have e2 := at_getD (0 : Int) (show t < xs.length by omega)
    rw [take_snoc e1, take_snoc e2, dotL_snoc _ _ (by rw [List.length_take, List.length_take]; omega), dotL_sumT (by omega) (by omega)]
    rfl
theorem dotL_sum {ns xs : List Int} (h : ns.length = xs.length) : dotL ns xs = sumT (fun j => ns.getD j 0 * xs.getD j 0) xs.length := by
  have := dotL_sumT (ns := ns) (xs := xs) (t := xs.length) (by omega) (Nat.le_refl _)
  rwa [List.take_of_length_le (by omega), List.take_of_length_le (Nat.le_refl _)] at this
/-- what the lane j of the other row is multiplied by -/
def wV (x : List Int) (w L j : Nat) : Int := 2 ^ (w * j) * val (x.take (L - j)) w
def wts (x : List Int) (w L n : Nat) : List Int := (List.range n).map (wV x w L)
theorem wts_len (x : List Int) (w L n : Nat) : (wts x w L n).length = n := by unfold wts; rw [List.length_map, List.length_range]
theorem wts_get (x : List Int) (w L : Nat) {n j : Nat} (h : j < n) : (wts x w L n).getD j 0 = wV x w L j := range_getD n _ h
theorem rgD (f : Nat → Int) (n i : Nat) : ((List.range n).map f).getD i 0 = if i < n then f i else 0 := by
  rw [List.getD_eq_getElem?_getD, List.getElem?_map]
  split
  · rw [List.getElem?_range (by assumption)]
    rfl
  · rw [List.getElem?_eq_none (by rw [List.length_range]; omega)]
    rfl
theorem far0 {l : List Int} {i : Nat} (h : l.length ≤ i) : l.getD i 0 = 0 := by
  rw [List.getD_eq_getElem?_getD, List.getElem?_eq_none h]
  rfl
theorem getD_take (l : List Int) (n i : Nat) : (l.take n).getD i 0 = if i < n then l.getD i 0 else 0 := by
  rw [List.getD_eq_getElem?_getD, List.getElem?_take]
  split
  · rw [List.getD_eq_getElem?_getD]
  · rfl
theorem val_shl (xs : List Int) (w L j : Nat) : val ((List.range L).map (shl xs j)) w = wV xs w L j := by
  rcases Nat.lt_or_ge j L with h | h
  · unfold wV
    rw [← val_up]
    refine val_congr w L _ _ (by rw [List.length_map, List.length_range]; exact Nat.le_refl _) (by rw [List.length_append, List.length_replicate, List.length_take]; omega) fun i => ?_
    rw [rgD]
    rw [List.getD_eq_getElem?_getD]
    rcases Nat.lt_or_ge i j with g | g
    · rw [List.getElem?_append_left (by rw [List.length_replicate]; exact g), List.getElem?_replicate, if_pos g, if_pos (by omega)]
      exact shl_out (.inl g)
    · rw [List.getElem?_append_right (by rw [List.length_replicate]; exact g), List.length_replicate, ← List.getD_eq_getElem?_getD, getD_take]
      by_cases e : i < L
      · rw [if_pos e, if_pos (by omega)]
        unfold shl
        rw [if_pos g]
      · rw [if_neg e, if_neg (by omega)]
  · unfold wV
    rw [show L - j = 0 by omega, List.take_zero]
    show _ = _ * 0
    rw [Int.mul_zero]
    have e : ∀ i, ((List.range L).map (shl xs j)).getD i 0 = (List.replicate L (0 : Int)).getD i 0 := fun i => by
      rw [rgD, List.getD_eq_getElem?_getD, List.getElem?_replicate]
      split
      · rw [shl_out (.inl (by omega))]
        rfl
      · rfl
    rw [val_congr w L _ _ (by rw [List.length_map, List.length_range]; exact Nat.le_refl _) (by rw [List.length_replicate]; exact Nat.le_refl _) e, val_zero]
theorem val_lin (w : Nat) (f g : Nat → Int) (c : Int) : ∀ L : List Nat, val (L.map fun n => f n + c * g n) w = val (L.map f) w + c * val (L.map g) w
  | [] => by show (0 : Int) = 0 + c * 0; rw [Int.mul_zero]; rfl
  | n :: L => by
    show f n + c * g n + 2 ^ w * val (L.map fun n => f n + c * g n) w = f n + 2 ^ w * val (L.map f) w + c * (g n + 2 ^ w * val (L.map g) w)
    rw [val_lin w f g c L]
    grind
theorem val_conv (xs ys : List Int) (w L : Nat) : ∀ t, val ((List.range L).map (conv ys xs t)) w = sumT (fun j => ys.getD j 0 * wV xs w L j) t
  | 0 => by
    have e : ∀ i, ((List.range L).map (conv ys xs 0)).getD i 0 = (List.replicate L (0 : Int)).getD i 0 := fun i => by
      rw [rgD, List.getD_eq_getElem?_getD, List.getElem?_replicate]
      split <;> rfl
    rw [val_congr w L _ _ (by rw [List.length_map, List.length_range]; exact Nat.le_refl _) (by rw [List.length_replicate]; exact Nat.le_refl _) e, val_zero]
    rfl
  | t + 1 => by
    have e : ((List.range L).map (conv ys xs (t + 1))) = (List.range L).map fun n => conv ys xs t n + ys.getD t 0 * shl xs t n := List.map_congr_left fun n _ => rfl
    rw [e, val_lin, val_conv xs ys w L t, val_shl]
    rfl
/-- the number of the first lanes of a product P of ys and xs -/
theorem cut_val {xs ys P : List Int} (h : ∀ n, P.getD n 0 = conv ys xs ys.length n) (w L : Nat) : val (P.take L) w = dotL (wts xs w L ys.length) ys := by
  have e : val (P.take L) w = val ((List.range L).map (conv ys xs ys.length)) w := val_congr w L _ _ (by rw [List.length_take]; omega) (by rw [List.length_map, List.length_range]; exact Nat.le_refl _) fun i => by
    rw [getD_take, rgD]
    split
    · exact h i
    · rfl
  rw [e, val_conv, dotL_sum (wts_len ..)]
  exact sumT_congr fun j hj => by rw [wts_get _ _ _ hj, Int.mul_comm]
/-! corners -/
def cS (n : Int) (p : Int × Int) : Int := if n > 0 then p.2 else p.1
theorem corner_get {ns : List Int} {ps : List (Int × Int)} (h : ns.length = ps.length) {j : Nat} (hj : j < ps.length) : (cornerL ns ps).getD j 0 = cS (ns.getD j 0) (ps.getD j (0, 0)) := by
  have e1 := at_getD (0 : Int) (show j < ns.length by omega)
  have e2 := at_getD ((0, 0) : Int × Int) hj
  unfold cornerL
  rw [List.getD_eq_getElem?_getD, List.getElem?_map, show (ns.zip ps)[j]? = some (ns.getD j 0, ps.getD j (0, 0)) from List.getElem?_zip_eq_some.mpr ⟨e1, e2⟩]
  rfl
theorem corner_ext {ns ms : List Int} {ps : List (Int × Int)} (h1 : ns.length = ps.length) (h2 : ms.length = ps.length) (h : ∀ j, j < ps.length → (ns.getD j 0 > 0 ↔ ms.getD j 0 > 0)) : cornerL ns ps = cornerL ms ps := by
  refine List.ext_getElem? fun j => ?_
  rcases Nat.lt_or_ge j ps.length with l | l
  · rw [at_getD (0 : Int) (show j < (cornerL ns ps).length by rw [cornerL_len h1]; exact l), at_getD (0 : Int) (show j < (cornerL ms ps).length by rw [cornerL_len h2]; exact l), corner_get h1 l, corner_get h2 l]
    unfold cS
    by_cases g : ns.getD j 0 > 0
    · rw [if_pos g, if_pos ((h j l).mp g)]
    · rw [if_neg g, if_neg fun z => g ((h j l).mpr z)]
  · rw [List.getElem?_eq_none (by rw [cornerL_len h1]; exact l), List.getElem?_eq_none (by rw [cornerL_len h2]; exact l)]
theorem dot_corner {ns : List Int} {ps : List (Int × Int)} (h : ns.length = ps.length) : dotL ns (cornerL ns ps) = sumT (fun j => ns.getD j 0 * cS (ns.getD j 0) (ps.getD j (0, 0))) ps.length := by
  rw [dotL_sum (by rw [cornerL_len h]; exact h), cornerL_len h]
  exact sumT_congr fun j hj => by rw [corner_get h hj]
/-- the greatest worth of the first L lanes for a row x, over the ranges qs -/
def mxV (x : List Int) (qs : List (Int × Int)) (w L : Nat) : Int := dotL (wts x w L qs.length) (cornerL (wts x w L qs.length) qs)
theorem mxV_sum (x : List Int) (qs : List (Int × Int)) (w L : Nat) : mxV x qs w L = sumT (fun j => wV x w L j * cS (wV x w L j) (qs.getD j (0, 0))) L := by
  unfold mxV
  rw [dot_corner (wts_len ..), sumT_congr fun j hj => by rw [wts_get _ _ _ hj]]
  have z1 : ∀ j, qs.length ≤ j → wV x w L j * cS (wV x w L j) (qs.getD j (0, 0)) = 0 := fun j hj => by
    rw [List.getD_eq_getElem?_getD, List.getElem?_eq_none hj]
    show _ * cS _ (0, 0) = 0
    unfold cS
    split <;> exact Int.mul_zero _
  have z2 : ∀ j, L ≤ j → wV x w L j * cS (wV x w L j) (qs.getD j (0, 0)) = 0 := fun j hj => by
    have : wV x w L j = 0 := by
      unfold wV
      rw [show L - j = 0 by omega, List.take_zero]
      exact Int.mul_zero _
    rw [this, Int.zero_mul]
  rcases Nat.le_total qs.length L with h | h
  · exact (sumT_more h fun j a _ => z1 j a).symm
  · exact sumT_more h fun j a _ => z2 j a
/-- the numbers of the first entries: of one, of two, .. -/
def nsP (x : List Int) (w : Nat) : List Int := (List.range x.length).map fun i => val (x.take (i + 1)) w
def ptP (qs : List (Int × Int)) (w a b : Nat) : Int × Int := (val (((qs.map (·.1)).drop a).take (b - a)) w * 2 ^ (w * a), val (((qs.map (·.2)).drop a).take (b - a)) w * 2 ^ (w * a))
def partsP (qs : List (Int × Int)) (w L s : Nat) : List (Int × Int) := (List.range (s - 1)).map (fun i => ptP qs w (L - 1 - i) (L - 1 - i + 1)) ++ if s = 0 then [] else [ptP qs w 0 (L - s + 1)]
theorem partsP_len (qs : List (Int × Int)) (w L s : Nat) : (partsP qs w L s).length = s := by
  unfold partsP
  rw [List.length_append, List.length_map, List.length_range]
  split
  · simp; omega
  · simp; omega
theorem val1 (x : Int) (w : Nat) : val [x] w = x := by
  show x + 2 ^ w * 0 = x
  rw [Int.mul_zero, Int.add_zero]
theorem take1 (l : List Int) (j w : Nat) : val ((l.drop j).take 1) w = l.getD j 0 := by
  rw [List.getD_eq_getElem?_getD]
  rcases Nat.lt_or_ge j l.length with h | h
  · rw [List.drop_eq_getElem_cons h, List.getElem?_eq_getElem h]
    exact val1 _ _
  · rw [List.drop_eq_nil_of_le h, List.getElem?_eq_none h]
    rfl
theorem map_getD1 (qs : List (Int × Int)) (j : Nat) : (qs.map (·.1)).getD j 0 = (qs.getD j (0, 0)).1 := by
  rw [List.getD_eq_getElem?_getD, List.getElem?_map, List.getD_eq_getElem?_getD]
  cases qs[j]? <;> rfl
theorem map_getD2 (qs : List (Int × Int)) (j : Nat) : (qs.map (·.2)).getD j 0 = (qs.getD j (0, 0)).2 := by
  rw [List.getD_eq_getElem?_getD, List.getElem?_map, List.getD_eq_getElem?_getD]
  cases qs[j]? <;> rfl
theorem ptP_one (qs : List (Int × Int)) (w j : Nat) (n : Int) : cS n (ptP qs w j (j + 1)) = cS n (qs.getD j (0, 0)) * 2 ^ (w * j) := by
  unfold ptP cS
  rw [show j + 1 - j = 1 by omega, take1, take1, map_getD1, map_getD2]
  split <;> rfl
theorem cS_pos {n m : Int} (h : n > 0 ↔ m > 0) (p : Int × Int) : cS n p = cS m p := by
  unfold cS
  by_cases g : n > 0
  · rw [if_pos g, if_pos (h.mp g)]
  · rw [if_neg g, if_neg fun z => g (h.mpr z)]
theorem wV_pos (x : List Int) (w L j : Nat) : wV x w L j > 0 ↔ val (x.take (L - j)) w > 0 := by
  unfold wV
  have := pw (w * j)
  constructor
  · intro h
    rcases Int.lt_or_le 0 (val (x.take (L - j)) w) with g | g
    · exact g
    · have := Int.mul_nonpos_of_nonneg_of_nonpos (Int.le_of_lt (pw (w * j))) g
      omega
  · exact Int.mul_pos this
/-- the whole lanes, one behind the other -/
theorem whole_part {x : List Int} {qs : List (Int × Int)} {w L : Nat} : ∀ {m : Nat}, (∀ j, j < m → x.length ≤ L - j) → val x w * cS (val x w) (ptP qs w 0 m) = sumT (fun j => wV x w L j * cS (wV x w L j) (qs.getD j (0, 0))) m
  | 0, _ => by
    show _ * cS _ (val (List.take 0 _) w * _, val (List.take 0 _) w * _) = 0
    rw [List.take_zero, List.take_zero]
    show _ * cS _ (0 * _, 0 * _) = 0
    rw [Int.zero_mul]
    unfold cS
    split <;> exact Int.mul_zero _
  | m + 1, h => by
    have ih := whole_part (x := x) (qs := qs) (w := w) (L := L) (m := m) fun j hj => h j (by omega)
    show _ = sumT _ m + _
    rw [← ih]
    have ex : x.take (L - m) = x := List.take_of_length_le (h m (by omega))
    have ew : wV x w L m = 2 ^ (w * m) * val x w := by unfold wV; rw [ex]
    have ec : cS (wV x w L m) (qs.getD m (0, 0)) = cS (val x w) (qs.getD m (0, 0)) := cS_pos (by rw [wV_pos, ex]) _
    dsimp only
    rw [ec, ew]
    have step : ∀ l : List Int, val ((l.drop 0).take (m + 1 - 0)) w * 2 ^ (w * 0) = val ((l.drop 0).take (m - 0)) w * 2 ^ (w * 0) + 2 ^ (w * m) * l.getD m 0 := fun l => by
      rw [Nat.mul_zero, Int.pow_zero, Int.mul_one, Int.mul_one, List.drop_zero, Nat.sub_zero, Nat.sub_zero]
      rcases Nat.lt_or_ge m l.length with g | g
      · exact val_take_succ l w g
      · rw [List.take_of_length_le (by omega), List.take_of_length_le g, far0 g, Int.mul_zero, Int.add_zero]
    unfold ptP cS
    rw [step, step, map_getD1, map_getD2]
    split <;> grind
theorem parts_max {x : List Int} {qs : List (Int × Int)} {w L : Nat} (h : x.length ≤ L) : dotL (nsP x w) (cornerL (nsP x w) (partsP qs w L x.length)) = mxV x qs w L := by
  have ln : (nsP x w).length = x.length := by unfold nsP; rw [List.length_map, List.length_range]
  rw [dot_corner (by rw [ln, partsP_len]), partsP_len, mxV_sum]
  have en : ∀ j, j < x.length → (nsP x w).getD j 0 = val (x.take (j + 1)) w := fun j hj => range_getD _ _ hj
  rw [sumT_congr fun j hj => by rw [en j hj]]
  cases hs : x.length with
  | zero =>
    refine (sumT_zero fun j _ => ?_).symm
    have : wV x w L j = 0 := by
      unfold wV
      rw [List.eq_nil_of_length_eq_zero hs, List.take_nil]
      exact Int.mul_zero _
    rw [this, Int.zero_mul]
  | succ s =>
    have hL : s + 1 ≤ L := by omega
    have ep : ∀ j, j < s → (partsP qs w L (s + 1)).getD j (0, 0) = ptP qs w (L - 1 - j) (L - 1 - j + 1) := fun j hj => by
      unfold partsP
      rw [List.getD_eq_getElem?_getD, List.getElem?_append_left (by rw [List.length_map, List.length_range]; exact hj), List.getElem?_map, List.getElem?_range (by omega)]
      rfl
    have el : (partsP qs w L (s + 1)).getD s (0, 0) = ptP qs w 0 (L - s) := by
      unfold partsP
      rw [List.getD_eq_getElem?_getD, List.getElem?_append_right (by rw [List.length_map, List.length_range]; exact Nat.le_refl _), List.length_map, List.length_range, if_neg (Nat.succ_ne_zero s), show s - (s + 1 - 1) = 0 by omega, show L - (s + 1) + 1 = L - s by omega]
      rfl
    show sumT _ s + _ = _
    dsimp only
    rw [el, List.take_of_length_le (by omega), whole_part (L := L) fun j hj => by omega]
    have tail : ∀ t, t ≤ s → sumT (fun j => wV x w L j * cS (wV x w L j) (qs.getD j (0, 0))) (L - t) + sumT (fun j => val (x.take (j + 1)) w * cS (val (x.take (j + 1)) w) ((partsP qs w L (s + 1)).getD j (0, 0))) t = sumT (fun j => wV x w L j * cS (wV x w L j) (qs.getD j (0, 0))) L := by
      intro t
      induction t with
      | zero => intro _; exact Int.add_zero _
      | succ t ih =>
        intro ht
        rw [← ih (by omega)]
        have e1 : L - t = (L - (t + 1)) + 1 := by omega
        rw [e1]
        show _ + (sumT _ t + _) = sumT _ (L - (t + 1)) + _ + sumT _ t
        dsimp only
        rw [ep t (by omega), ptP_one, show L - 1 - t = L - (t + 1) by omega]
        have ew : wV x w L (L - (t + 1)) = 2 ^ (w * (L - (t + 1))) * val (x.take (t + 1)) w := by
          unfold wV
          rw [show L - (L - (t + 1)) = t + 1 by omega]
        have ec : cS (wV x w L (L - (t + 1))) (qs.getD (L - (t + 1)) (0, 0)) = cS (val (x.take (t + 1)) w) (qs.getD (L - (t + 1)) (0, 0)) := cS_pos (by rw [wV_pos, show L - (L - (t + 1)) = t + 1 by omega]) _
        rw [ec, ew]
        grind
    have := tail s (Nat.le_refl _)
    omega
theorem ngL_take (x : List Int) (k : Nat) : (ngL x).take k = ngL (x.take k) := by
  unfold ngL
  rw [List.map_take]
theorem val_ng (w : Nat) : ∀ x : List Int, val (ngL x) w = -val x w
  | [] => rfl
  | a :: x => by
    show -a + 2 ^ w * val (ngL x) w = -(a + 2 ^ w * val x w)
    rw [val_ng w x]
    grind
theorem nsP_ng (x : List Int) (w : Nat) : ngL (nsP x w) = nsP (ngL x) w := by
  unfold nsP
  rw [ngL_len]
  show List.map _ (List.map _ _) = _
  rw [List.map_map]
  refine List.map_congr_left fun i _ => ?_
  show -val (x.take (i + 1)) w = _
  rw [ngL_take, val_ng]
def mnV (x : List Int) (qs : List (Int × Int)) (w L : Nat) : Int := -mxV (ngL x) qs w L
theorem parts_min {x : List Int} {qs : List (Int × Int)} {w L : Nat} (h : x.length ≤ L) : dotL (nsP x w) (cornerL (ngL (nsP x w)) (partsP qs w L x.length)) = mnV x qs w L := by
  have := parts_max (x := ngL x) (qs := qs) (w := w) (L := L) (by rw [ngL_len]; exact h)
  rw [← nsP_ng, ngL_len, dot_neg] at this
  unfold mnV
  omega
/-! choices of ends -/
def endsT (p : Int × Int) : List Int := if p.1 = p.2 then [p.1] else [p.1, p.2]
def chStep (cs : List (List Int)) (p : Int × Int) : List (List Int) := cs.flatMap fun c => (endsT p).map fun e => c ++ [e]
def chL (ps : List (Int × Int)) : List (List Int) := ps.foldl chStep [[]]
theorem chL_snoc (ps : List (Int × Int)) (p : Int × Int) : chL (ps ++ [p]) = chStep (chL ps) p := by
  unfold chL
  rw [List.foldl_append]
  rfl
def IsCh (ps : List (Int × Int)) (c : List Int) : Prop := c.length = ps.length ∧ ∀ i, i < ps.length → c.getD i 0 = (ps.getD i (0, 0)).1 ∨ c.getD i 0 = (ps.getD i (0, 0)).2
theorem endsT_mem {p : Int × Int} {e : Int} : e ∈ endsT p ↔ e = p.1 ∨ e = p.2 := by
  unfold endsT
  split
  · rename_i h
    rw [List.mem_singleton, h]
    exact ⟨.inl, fun h => h.elim id id⟩
  · simp
theorem getD_app1 {α : Type} {l m : List α} {d : α} {i : Nat} (h : i < l.length) : (l ++ m).getD i d = l.getD i d := by
  rw [List.getD_eq_getElem?_getD, List.getElem?_append_left h, List.getD_eq_getElem?_getD]
theorem getD_last {α : Type} {l : List α} {x d : α} : (l ++ [x]).getD l.length d = x := by
  rw [List.getD_eq_getElem?_getD, List.getElem?_append_right (Nat.le_refl _), Nat.sub_self]
  rfl
theorem isCh_snoc {ps : List (Int × Int)} {p : Int × Int} {c : List Int} {e : Int} : IsCh (ps ++ [p]) (c ++ [e]) ↔ IsCh ps c ∧ (e = p.1 ∨ e = p.2) := by
  constructor
  · rintro ⟨h1, h2⟩
    rw [List.length_append, List.length_append] at h1
    have hl : c.length = ps.length := Nat.succ.inj h1
    refine ⟨⟨hl, fun i hi => ?_⟩, ?_⟩
    · have := h2 i (by rw [List.length_append]; omega)
      rwa [getD_app1 (by omega), getD_app1 hi] at this
    · have := h2 ps.length (by rw [List.length_append]; show _ < _ + 1; omega)
      rwa [getD_last, ← hl, getD_last] at this
  · rintro ⟨⟨h1, h2⟩, h3⟩
    refine ⟨by rw [List.length_append, List.length_append, h1]; rfl, fun i hi => ?_⟩
    rw [List.length_append] at hi
    have hi' : i < ps.length + 1 := hi
    rcases Nat.lt_or_ge i ps.length with l | l
    · rw [getD_app1 (by omega), getD_app1 l]
      exact h2 i l
    · obtain rfl : i = ps.length := by omega
      rw [getD_last, ← h1, getD_last]
      exact h3
theorem chL_mem' : ∀ (n : Nat) (ps : List (Int × Int)) (c : List Int), ps.length = n → (c ∈ chL ps ↔ IsCh ps c)
  | 0, ps, c, h => by
    obtain rfl := List.eq_nil_of_length_eq_zero h
    show c ∈ [[]] ↔ _
    rw [List.mem_singleton]
    exact ⟨fun e => by rw [e]; exact ⟨rfl, fun i hi => absurd hi (Nat.not_lt_zero _)⟩, fun e => List.eq_nil_of_length_eq_zero e.1⟩
  | n + 1, ps, c, h => by
    obtain ⟨qs, q, rfl⟩ : ∃ qs q, ps = qs ++ [q] := ⟨ps.dropLast, ps.getLast (fun z => by rw [z] at h; cases h), (List.dropLast_concat_getLast _).symm⟩
    have hq : qs.length = n := by rw [List.length_append] at h; exact Nat.succ.inj h
    rw [chL_snoc]
    unfold chStep
    rw [List.mem_flatMap]
    constructor
    · rintro ⟨d, hd, hc⟩
      obtain ⟨e, he, rfl⟩ := List.mem_map.mp hc
      exact isCh_snoc.mpr ⟨(chL_mem' n qs d hq).mp hd, endsT_mem.mp he⟩
    · intro hc
      have hl : c.length = n + 1 := hc.1.trans h
      obtain ⟨d, e, rfl⟩ : ∃ d e, c = d ++ [e] := ⟨c.dropLast, c.getLast (fun z => by rw [z] at hl; cases hl), (List.dropLast_concat_getLast _).symm⟩
      obtain ⟨h1, h2⟩ := isCh_snoc.mp hc
      exact ⟨d, (chL_mem' n qs d hq).mpr h1, List.mem_map.mpr ⟨e, endsT_mem.mpr h2, rfl⟩⟩
theorem chL_mem {ps : List (Int × Int)} {c : List Int} : c ∈ chL ps ↔ IsCh ps c := chL_mem' _ ps c rfl
theorem flat_len {α β : Type} {f : α → List β} {W : Nat} : ∀ {l : List α}, (∀ x ∈ l, (f x).length ≤ W) → (l.flatMap f).length ≤ l.length * W
  | [], _ => by simp
  | x :: l, h => by
    have h1 := h x (List.mem_cons_self ..)
    have h2 := flat_len (l := l) fun y hy => h y (List.mem_cons_of_mem _ hy)
    rw [List.flatMap_cons, List.length_append, List.length_cons, Nat.succ_mul]
    omega
theorem endsT_len (p : Int × Int) : (endsT p).length ≤ 2 := by
  unfold endsT
  split <;> simp
theorem chL_len' : ∀ (n : Nat) (ps : List (Int × Int)), ps.length = n → (chL ps).length ≤ 2 ^ n
  | 0, ps, h => by
    obtain rfl := List.eq_nil_of_length_eq_zero h
    exact Nat.le_refl _
  | n + 1, ps, h => by
    obtain ⟨qs, q, rfl⟩ : ∃ qs q, ps = qs ++ [q] := ⟨ps.dropLast, ps.getLast (fun z => by rw [z] at h; cases h), (List.dropLast_concat_getLast _).symm⟩
    have hq : qs.length = n := by rw [List.length_append] at h; exact Nat.succ.inj h
    have ih := chL_len' n qs hq
    rw [chL_snoc]
    have := flat_len (f := fun c => (endsT q).map fun e => c ++ [e]) (W := 2) (l := chL qs) fun x _ => by rw [List.length_map]; exact endsT_len q
    unfold chStep
    rw [Nat.pow_succ]
    omega
theorem chL_len (ps : List (Int × Int)) : (chL ps).length ≤ 2 ^ ps.length := chL_len' _ ps rfl
theorem IsCh.inBox {ps : List (Int × Int)} {c : List Int} (h : IsCh ps c) (v : Valid ps) : InBox ps c := ⟨h.1, fun i hi => by
  have := h.2 i hi
  have := v.get hi
  omega⟩
theorem corner_ch {ns : List Int} {ps : List (Int × Int)} (h : ns.length = ps.length) : IsCh ps (cornerL ns ps) := ⟨cornerL_len h, fun i hi => by
  rw [corner_get h hi]
  unfold cS
  split
  · exact .inr rfl
  · exact .inl rfl⟩
theorem IsCh.take {ps : List (Int × Int)} {c : List Int} (h : IsCh ps c) (L : Nat) : IsCh (ps.take L) (c.take L) := by
  refine ⟨by rw [List.length_take, List.length_take, h.1], fun i hi => ?_⟩
  rw [List.length_take] at hi
  rw [List.getD_eq_getElem?_getD, List.getD_eq_getElem?_getD, List.getElem?_take, List.getElem?_take, if_pos (by omega), if_pos (by omega), ← List.getD_eq_getElem?_getD, ← List.getD_eq_getElem?_getD]
  exact h.2 i (by omega)
/-! the number of the first lanes, for two rows -/
def Wn (x y : List Int) (w L : Nat) : Int := dotL (wts x w L y.length) y
theorem Wn_sym (x y : List Int) (w L : Nat) : Wn x y w L = dotL (wts y w L x.length) x := by
  unfold Wn
  rw [← cut_val (P := mulP y x) (fun n => mulP_get y x n), ← cut_val (P := mulP y x) (fun n => (mulP_get y x n).trans (conv_comm y x n))]
theorem wV_take (x : List Int) (w L j : Nat) : wV (x.take L) w L j = wV x w L j := by
  unfold wV
  rw [List.take_take, Nat.min_eq_left (by omega)]
theorem Wn_take (x y : List Int) (w L : Nat) : Wn (x.take L) y w L = Wn x y w L := by
  unfold Wn wts
  rw [show wV (x.take L) w L = wV x w L from funext fun j => wV_take x w L j]
theorem mxV_take (x : List Int) (qs : List (Int × Int)) (w L : Nat) : mxV (x.take L) qs w L = mxV x qs w L := by
  unfold mxV wts
  rw [show wV (x.take L) w L = wV x w L from funext fun j => wV_take x w L j]
theorem Wn_ng (x y : List Int) (w L : Nat) : Wn (ngL x) y w L = -Wn x y w L := by
  unfold Wn
  rw [← dot_neg]
  congr 1
  unfold wts
  show _ = List.map _ (List.map _ _)
  rw [List.map_map]
  refine List.map_congr_left fun j _ => ?_
  show 2 ^ (w * j) * val ((ngL x).take (L - j)) w = -(2 ^ (w * j) * val (x.take (L - j)) w)
  rw [ngL_take, val_ng, Int.mul_neg]
theorem Wn_le {x y : List Int} {qs : List (Int × Int)} {w L : Nat} (vq : Valid qs) (hy : InBox qs y) : mnV x qs w L ≤ Wn x y w L ∧ Wn x y w L ≤ mxV x qs w L := by
  have key : ∀ x : List Int, Wn x y w L ≤ mxV x qs w L := fun x => by
    unfold Wn mxV
    rw [hy.1]
    exact (corner_in (wts_len x w L qs.length) vq).2 y hy
  refine ⟨?_, key x⟩
  have := key (ngL x)
  rw [Wn_ng] at this
  unfold mnV
  omega
theorem Wn_all {x y : List Int} {ps qs : List (Int × Int)} {w L : Nat} (vp : Valid ps) (vq : Valid qs) (hx : InBox ps x) (hy : InBox qs y) : (∃ c ∈ chL (ps.take L), Wn x y w L ≤ mxV c qs w L) ∧ ∃ c ∈ chL (ps.take L), mnV c qs w L ≤ Wn x y w L := by
  have hl : (wts y w L ps.length).length = ps.length := wts_len ..
  constructor
  · refine ⟨(cornerL (wts y w L ps.length) ps).take L, chL_mem.mpr ((corner_ch hl).take L), ?_⟩
    have h1 := (corner_in hl vp).2 x hx
    have e1 := Wn_sym x y w L
    have e2 := Wn_sym (cornerL (wts y w L ps.length) ps) y w L
    rw [cornerL_len hl] at e2
    rw [hx.1] at e1
    have h2 := (Wn_le (x := (cornerL (wts y w L ps.length) ps).take L) (w := w) (L := L) vq hy).2
    rw [Wn_take] at h2
    omega
  · have hl' : (ngL (wts y w L ps.length)).length = ps.length := by rw [ngL_len]; exact hl
    refine ⟨(cornerL (ngL (wts y w L ps.length)) ps).take L, chL_mem.mpr ((corner_ch hl').take L), ?_⟩
    have h1 := (low_in hl vp).2 x hx
    have e1 := Wn_sym x y w L
    have e2 := Wn_sym (cornerL (ngL (wts y w L ps.length)) ps) y w L
    rw [cornerL_len hl'] at e2
    rw [hx.1] at e1
    have h2 := (Wn_le (x := (cornerL (ngL (wts y w L ps.length)) ps).take L) (w := w) (L := L) vq hy).1
    rw [Wn_take] at h2
    omega
/-! the told rows -/
def multT (g : Int) (c : List Int) (w L n : Nat) : List Int := (List.range n).map fun j => g * val (c.take (L - j)) w
theorem multT_len (g : Int) (c : List Int) (w L n : Nat) : (multT g c w L n).length = n := by unfold multT; rw [List.length_map, List.length_range]
theorem corner_mult {c : List Int} {qs : List (Int × Int)} {w L : Nat} : cornerL (multT 1 c w L qs.length) qs = cornerL (wts c w L qs.length) qs ∧ cornerL (multT (-1) c w L qs.length) qs = cornerL (wts (ngL c) w L qs.length) qs := by
  constructor
  · refine corner_ext (multT_len ..) (wts_len ..) fun j hj => ?_
    rw [wts_get _ _ _ hj, wV_pos]
    unfold multT
    rw [range_getD _ _ hj, Int.one_mul]
  · refine corner_ext (multT_len ..) (wts_len ..) fun j hj => ?_
    rw [wts_get _ _ _ hj, wV_pos, ngL_take, val_ng]
    unfold multT
    rw [range_getD _ _ hj, Int.neg_mul, Int.one_mul]
def fullX (c : List Int) (ps : List (Int × Int)) : List Int := c ++ (ps.drop c.length).map (·.1)
theorem fullX_ch {c : List Int} {ps : List (Int × Int)} {L : Nat} (h : IsCh (ps.take L) c) : IsCh ps (fullX c ps) ∧ (fullX c ps).take L = c := by
  have hl := h.1
  rw [List.length_take] at hl
  refine ⟨⟨?_, fun i hi => ?_⟩, ?_⟩
  · unfold fullX
    rw [List.length_append, List.length_map, List.length_drop]
    omega
  · unfold fullX
    rcases Nat.lt_or_ge i c.length with g | g
    · rw [getD_app1 g]
      have := h.2 i (by rw [List.length_take]; omega)
      rwa [show (ps.take L).getD i (0, 0) = ps.getD i (0, 0) by rw [List.getD_eq_getElem?_getD, List.getElem?_take, if_pos (by omega), List.getD_eq_getElem?_getD]] at this
    · refine .inl ?_
      rw [List.getD_eq_getElem?_getD, List.getElem?_append_right g, List.getElem?_map, List.getElem?_drop, show c.length + (i - c.length) = i by omega, at_getD (0, 0) hi]
      rfl
  · unfold fullX
    rcases Nat.le_total ps.length L with g | g
    · rw [List.drop_eq_nil_of_le (by omega), List.map_nil, List.append_nil, List.take_of_length_le (by omega)]
    · rw [List.take_append_of_le_length (by omega), List.take_of_length_le (by omega)]
structure ExtW (ps qs : List (Int × Int)) (w L : Nat) (lo hi : Int) (x1 y1 x2 y2 : List Int) : Prop where
  c1 : IsCh ps x1
  d1 : IsCh qs y1
  c2 : IsCh ps x2
  d2 : IsCh qs y2
  e1 : Wn x1 y1 w L = lo
  e2 : Wn x2 y2 w L = hi
  all : ∀ x y, InBox ps x → InBox qs y → lo ≤ Wn x y w L ∧ Wn x y w L ≤ hi
theorem ext_of {ps qs : List (Int × Int)} {w L : Nat} {c1 c2 : List Int} (vp : Valid ps) (vq : Valid qs) (h1 : c1 ∈ chL (ps.take L)) (m1 : ∀ c ∈ chL (ps.take L), mnV c1 qs w L ≤ mnV c qs w L) (h2 : c2 ∈ chL (ps.take L)) (m2 : ∀ c ∈ chL (ps.take L), mxV c qs w L ≤ mxV c2 qs w L) :
    ExtW ps qs w L (mnV c1 qs w L) (mxV c2 qs w L) (fullX c1 ps) (cornerL (multT (-1) c1 w L qs.length) qs) (fullX c2 ps) (cornerL (multT 1 c2 w L qs.length) qs) := by
  obtain ⟨f1, t1⟩ := fullX_ch (chL_mem.mp h1)
  obtain ⟨f2, t2⟩ := fullX_ch (chL_mem.mp h2)
  have e0 : ∀ c : List Int, Wn c (cornerL (wts c w L qs.length) qs) w L = mxV c qs w L := fun c => by
    unfold Wn mxV
    rw [cornerL_len (wts_len ..)]
  refine ⟨f1, corner_ch (multT_len ..), f2, corner_ch (multT_len ..), ?_, ?_, fun x y hx hy => ?_⟩
  · rw [← Wn_take, t1, corner_mult.2]
    have := e0 (ngL c1)
    rw [Wn_ng] at this
    unfold mnV
    omega
  · rw [← Wn_take, t2, corner_mult.1]
    exact e0 c2
  · obtain ⟨⟨c, hc, h⟩, d, hd, g⟩ := Wn_all (w := w) (L := L) vp vq hx hy
    have := m1 d hd
    have := m2 c hc
    omega
theorem ExtW.swap {ps qs : List (Int × Int)} {w L : Nat} {lo hi : Int} {x1 y1 x2 y2 : List Int} (h : ExtW ps qs w L lo hi x1 y1 x2 y2) : ExtW qs ps w L lo hi y1 x1 y2 x2 := by
  have sy : ∀ x y, Wn y x w L = Wn x y w L := fun x y => by rw [Wn_sym]; rfl
  exact ⟨h.d1, h.c1, h.d2, h.c2, by rw [sy]; exact h.e1, by rw [sy]; exact h.e2, fun x y hx hy => by rw [sy]; exact h.all y x hy hx⟩
end Pl
namespace Pl
open PySem PySem.Spec PyProof.Rows L2 RZ
section
variable {α β γ : Type} {r : Rel α} {s : Rel β} {t : Rel γ} {K : PySem.W.Frag} {H : Hp} {Q : VK} {σ : L2.St}
/-- [e for x in xs for y in ys]: a list, then a tuple that stands -/
theorem k_lc2 [Car Same r] [CarB r] [Car Same s] [Car Same t] [CarB t] {a i m k : Nat} {te : TE} {vs vs1 : List Nat} {v u : V} {xs : List α} {ys : List β} (f : α → β → γ) (h : rL r K H v xs) (h' : rT s K H u ys) (hm : xs.length * ys.length ≤ 100000)
    (hs : ∀ x y w z H2 X, x ∈ xs → y ∈ ys → r K H2 w x → s K H2 z y → Same H H2 → (∀ H3 q, Same H2 H3 → t K H3 q (f x y) → X q H3) → te ((wipe ((wipe σ vs).set i (some w)) vs1).set k (some z)) H2 X)
    (q : ∀ H' D, Same H H' → H D = none → rL t K H' (.ref D) (xs.flatMap fun x => ys.map (f x)) → Q (.ref D) H')
    (hva : σ[a]? = some (some v) := by rfl) (hum : ∀ x, ((wipe σ vs).set i (some x))[m]? = some (some u) := by intro _; rfl) (hw : ∀ x, wipe ((wipe σ vs).set i x) vs = wipe σ vs := by intro _; rfl)
    (hw1 : ∀ x y, wipe ((wipe ((wipe σ vs).set i x) vs1).set k y) vs1 = wipe ((wipe σ vs).set i x) vs1 := by intro _ _; rfl) : tLc2N (iList K (tVar a)) (gName i) tYes (iTup K (tVar m)) (gName k) tYes te vs vs1 σ H Q := by
  obtain ⟨p, rfl⟩ := h.ref
  obtain ⟨p', rfl⟩ := h'.ref
  have hp := h.sqr
  have hp' := h'.sqr
  obtain ⟨us, hus, _⟩ := id hp
  refine ⟨_, hva, p, rfl, ⟨us, hus⟩, fun D H1 hD s1 e1 => ?_⟩
  refine ⟨fun j n acc H' => n = xs.length - j ∧ j ≤ xs.length ∧ Same H H' ∧ AllR t K H' acc ((xs.take j).flatMap fun x => ys.map (f x)), ⟨xs.length, rfl, Nat.zero_le _, s1, trivial⟩, ?_⟩
  rintro j n acc H2 ⟨rfl, hj, s2, ha⟩ eD
  have flen : ∀ j, ((xs.take j).flatMap fun x => ys.map (f x)).length ≤ xs.length * ys.length := fun j => by
    have h1 := flat_len (f := fun x => ys.map (f x)) (W := ys.length) (l := xs.take j) fun x _ => by rw [List.length_map]; exact Nat.le_refl _
    have h2 : (xs.take j).length * ys.length ≤ xs.length * ys.length := Nat.mul_le_mul_right _ (by rw [List.length_take]; omega)
    omega
  rcases Nat.lt_or_ge j xs.length with lt | ge
  · refine .inr ⟨walkR_L.goes j H2 lt (hp.car s2), fun acc' H' => j + 1 ≤ xs.length ∧ Same H H' ∧ AllR t K H' acc' ((xs.take (j + 1)).flatMap fun x => ys.map (f x)), fun acc' H' ⟨z1, z2⟩ => ⟨xs.length - (j + 1), by omega, rfl, z1, z2⟩, fun w H3 y => ?_⟩
    obtain ⟨s3, x, hx, hr⟩ := walkR_L.yields j H2 w H3 lt (hp.car s2) y
    have s03 := s2.trans s3
    refine ⟨hw _, yesT ?_⟩
    have hp3 := hp'.car s03
    obtain ⟨us', hus', _⟩ := id hp3
    refine ⟨_, hum w, p', rfl, ⟨us', hus'⟩, ?_⟩
    have et := take_snoc hx
    refine ⟨fun j' n' acc' H' => n' = ys.length - j' ∧ j' ≤ ys.length ∧ Same H H' ∧ r K H' w x ∧ AllR t K H' acc' (((xs.take j).flatMap fun x => ys.map (f x)) ++ (ys.take j').map (f x)), ⟨ys.length, acc, s3 _ _ eD, rfl, Nat.zero_le _, s03, hr, by rw [List.take_zero, List.map_nil, List.append_nil]; exact ha.car s3⟩, ?_⟩
    rintro j' n' acc' H4 ⟨rfl, hj', s4, hr4, ha4⟩ eD4
    rcases Nat.lt_or_ge j' ys.length with lt' | ge'
    · refine .inr ⟨walkR_T.goes j' H4 lt' (hp'.car s4), fun acc'' H' => j' + 1 ≤ ys.length ∧ Same H H' ∧ r K H' w x ∧ AllR t K H' acc'' (((xs.take j).flatMap fun x => ys.map (f x)) ++ (ys.take (j' + 1)).map (f x)), fun acc'' H' ⟨z1, z2, z3, z4⟩ => ⟨ys.length - (j' + 1), by omega, rfl, z1, z2, z3, z4⟩, fun z H5 y' => ?_⟩
      obtain ⟨s5, yy, hy, hsz⟩ := walkR_T.yields j' H4 z H5 lt' (hp'.car s4) y'
      have s45 := s4.trans s5
      refine ⟨hw1 _ _, yesT ?_⟩
      refine hs x yy w z H5 _ (List.mem_of_getElem? hx) (List.mem_of_getElem? hy) (carS s5 hr4) hsz s45 fun H6 qv s6 hq => ?_
      have eD6 : H6 D = some (.lst acc') := s6 _ _ (s5 _ _ eD4)
      have la := ha4.length
      rw [List.length_append, List.length_map, List.length_take] at la
      have hl : acc'.length ≤ 200000 := by
        have h1 := flen j
        have h2 : ys.length ≤ 100000 := by
          have : 1 * ys.length ≤ xs.length * ys.length := Nat.mul_le_mul_right _ (by omega)
          omega
        omega
      refine ⟨eD6, len_big (by omega), fun H7 b7 e7 => ?_⟩
      refine ⟨lt', (s45.trans s6).but hD b7, CarB.car eD6 b7 (carS (s5.trans s6) hr4), ?_⟩
      · rw [take_snoc hy, List.map_append, ← List.append_assoc]
        exact ((ha4.car (s5.trans s6)).carB eD6 b7).snoc (CarB.car eD6 b7 hq)
    · obtain rfl : j' = ys.length := by omega
      rw [List.take_length] at ha4
      refine .inl ⟨walkR_T.stops H4 (hp'.car s4), lt, s4, ?_⟩
      rw [et, List.flatMap_append, List.flatMap_cons, List.flatMap_nil, List.append_nil]
      exact ha4
  · obtain rfl : j = xs.length := by omega
    rw [List.take_length] at ha
    exact .inl ⟨walkR_L.stops H2 (hp.car s2), q H2 D s2 hD ⟨D, acc, rfl, eD, ha⟩⟩
theorem k_asg2 {te : TE} {g1 g2 : TG} {D : Ends} (q : te σ H fun x H1 => g1 x σ H1 fun σ1 H2 => g2 x σ1 H2 D.nx) : tAsg2 te g1 g2 D σ H := q
theorem k_ifEJ {tt : TT} {ta tb : TE} (J : V → Hp → Prop) (q : tt σ H fun c H1 => if c = true then ta σ H1 J else tb σ H1 J) (f : ∀ v H', J v H' → Q v H') : tIfEJ tt ta tb σ H Q := ⟨J, q, f⟩
theorem walkR_rgC {lo c : Int} {n : Nat} : Walk (Itc lo c n) n (fun _ => True) (YR rI K ((List.range n).map fun i : Nat => lo + (i : Int) * c)) := by
  refine ⟨walk_rangeC.goes, walk_rangeC.stops, fun i H x H' hi h y => ?_⟩
  obtain ⟨rfl, rfl⟩ := walk_rangeC.yields i H x H' hi h y
  exact ⟨Same.refl _, lo + i * c, by rw [List.getElem?_map, List.getElem?_range hi]; rfl, rfl⟩
theorem k_revR2 {ta tb : TE} {g : TG} {tt : TT} {te : TE} {vs : List Nat} (q : ta σ H fun x H1 => tb σ H1 fun y H2 => ∃ i j : Int, x = .int i ∧ y = .int j ∧ -(2 ^ 62) ≤ i ∧ i < 2 ^ 62 ∧ -(2 ^ 62) ≤ j ∧ j < 2 ^ 62 ∧ LcTail (Itc (i + (((j - i).toNat : Nat) : Int) - 1) (-1) (j - i).toNat) g tt te vs σ Q H2) : tLcN (iRevR (tRg2 ta tb)) g tt te vs σ H Q := q
/-- [e for k in reversed(range(i, j))] -/
theorem k_lcMV [Car Same s] [CarB s] {i j : Int} {g : TG} {te : TE} {vs : List Nat} (f : Int → β) (h0 : -(2 ^ 61) ≤ i ∧ i < 2 ^ 61 ∧ -(2 ^ 61) ≤ j ∧ j < 2 ^ 61) (hm : j - i ≤ 100000)
    (hs : ∀ x H2 X Z, i ≤ x → x < j → Same H H2 → (∀ H3 u, Same H2 H3 → s K H3 u (f x) → X u H3) → LcTurn g tYes te vs σ (.int x) H2 X Z)
    (q : ∀ H' D, Same H H' → H D = none → rL s K H' (.ref D) ((List.range (j - i).toNat).map fun k : Nat => f (j - 1 - (k : Int))) → Q (.ref D) H') : ∃ i' j' : Int, V.int i = .int i' ∧ V.int j = .int j' ∧ -(2 ^ 62) ≤ i' ∧ i' < 2 ^ 62 ∧ -(2 ^ 62) ≤ j' ∧ j' < 2 ^ 62 ∧ LcTail (Itc (i' + (((j' - i').toNat : Nat) : Int) - 1) (-1) (j' - i').toNat) g tYes te vs σ Q H := by
  refine ⟨i, j, rfl, rfl, by omega, by omega, by omega, by omega, lcM (r := rI) (s := s) (K := K) walkR_rgC f (by rw [List.length_map, List.length_range]) (by omega) (fun _ _ => trivial) (fun x w H2 X Z hx hr e hX => ?_) fun H' D e hD h => q H' D e hD ?_⟩
  · obtain ⟨k, hk, rfl⟩ := List.mem_map.mp hx
    rw [show w = .int _ from hr]
    have := List.mem_range.mp hk
    exact hs _ H2 X Z (by omega) (by omega) e hX
  · rw [List.map_map] at h
    have e : List.map (f ∘ fun k : Nat => i + (((j - i).toNat : Nat) : Int) - 1 + (k : Int) * -1) (List.range (j - i).toNat) = List.map (fun k : Nat => f (j - 1 - (k : Int))) (List.range (j - i).toNat) := List.map_congr_left fun k hk => by
      have := List.mem_range.mp hk
      show f (i + (((j - i).toNat : Nat) : Int) - 1 + (k : Int) * -1) = _
      congr 1
      omega
    rw [e] at h
    exact h
end
end Pl

set_option Elab.async false
set_option linter.all false
set_option maxRecDepth 100000
set_option maxHeartbeats 2000000
/-! codes: walks and things of their laws -/
namespace Pl
open PySem PySem.Spec PyProof.Rows L2 RZ
section
variable {α β γ : Type} {r : Rel α} {s : Rel β} {t : Rel γ} {K : PySem.W.Frag} {H : Hp} {Q : VK} {σ : L2.St}
/-- [e for x in xs for y in x]: a tuple, then each of its items -/
theorem k_lc2I [Car Same r] [CarB r] [Car Same s] [Car Same t] [CarB t] {a i k : Nat} {te : TE} {vs vs1 : List Nat} {v : V} {xs : List α} (g : α → List β) (W : Nat) (hin : ∀ {H : Hp} {w : V} {x : α}, r K H w x → rT s K H w (g x)) (f : α → β → γ) (h : rT r K H v xs) (hW : ∀ x, (g x).length ≤ W) (hm : xs.length * W ≤ 100000)
    (hs : ∀ x y w z H2 X, x ∈ xs → y ∈ g x → r K H2 w x → s K H2 z y → Same H H2 → (∀ H3 q, Same H2 H3 → t K H3 q (f x y) → X q H3) → te ((wipe ((wipe σ vs).set i (some w)) vs1).set k (some z)) H2 X)
    (q : ∀ H' D, Same H H' → H D = none → rL t K H' (.ref D) (xs.flatMap fun x => (g x).map (f x)) → Q (.ref D) H')
    (hva : σ[a]? = some (some v) := by rfl) (hum : ∀ x, ((wipe σ vs).set i (some x))[i]? = some (some x) := by intro _; rfl) (hw : ∀ x, wipe ((wipe σ vs).set i x) vs = wipe σ vs := by intro _; rfl)
    (hw1 : ∀ x y, wipe ((wipe ((wipe σ vs).set i x) vs1).set k y) vs1 = wipe ((wipe σ vs).set i x) vs1 := by intro _ _; rfl) : tLc2N (iTup K (tVar a)) (gName i) tYes (iTup K (tVar i)) (gName k) tYes te vs vs1 σ H Q := by
  obtain ⟨p, rfl⟩ := h.ref
  have hp := h.sqr
  obtain ⟨us, hus, _⟩ := id hp
  refine ⟨_, hva, p, rfl, ⟨us, hus⟩, fun D H1 hD s1 e1 => ?_⟩
  refine ⟨fun j n acc H' => n = xs.length - j ∧ j ≤ xs.length ∧ Same H H' ∧ AllR t K H' acc ((xs.take j).flatMap fun x => (g x).map (f x)), ⟨xs.length, rfl, Nat.zero_le _, s1, trivial⟩, ?_⟩
  rintro j n acc H2 ⟨rfl, hj, s2, ha⟩ eD
  have flen : ∀ j, ((xs.take j).flatMap fun x => (g x).map (f x)).length ≤ xs.length * W := fun j => by
    have h1 := flat_len (f := fun x => (g x).map (f x)) (W := W) (l := xs.take j) fun x _ => by rw [List.length_map]; exact hW x
    have h2 : (xs.take j).length * W ≤ xs.length * W := Nat.mul_le_mul_right _ (by rw [List.length_take]; omega)
    omega
  rcases Nat.lt_or_ge j xs.length with lt | ge
  · refine .inr ⟨walkR_T.goes j H2 lt (hp.car s2), fun acc' H' => j + 1 ≤ xs.length ∧ Same H H' ∧ AllR t K H' acc' ((xs.take (j + 1)).flatMap fun x => (g x).map (f x)), fun acc' H' ⟨z1, z2⟩ => ⟨xs.length - (j + 1), by omega, rfl, z1, z2⟩, fun w H3 y => ?_⟩
    obtain ⟨s3, x, hx, hr⟩ := walkR_T.yields j H2 w H3 lt (hp.car s2) y
    have s03 := s2.trans s3
    refine ⟨hw _, yesT ?_⟩
    have hT3 : rT s K H3 w (g x) := hin hr
    obtain ⟨p', rfl⟩ := hT3.ref
    have hp' := hT3.sqr
    obtain ⟨us', hus', _⟩ := id hp'
    refine ⟨_, hum _, p', rfl, ⟨us', hus'⟩, ?_⟩
    generalize hys : g x = ys at *
    have et := take_snoc hx
    refine ⟨fun j' n' acc' H' => n' = ys.length - j' ∧ j' ≤ ys.length ∧ Same H H' ∧ r K H' (.ref p') x ∧ AllR t K H' acc' (((xs.take j).flatMap fun x => (g x).map (f x)) ++ (ys.take j').map (f x)), ⟨ys.length, acc, s3 _ _ eD, rfl, Nat.zero_le _, s03, hr, by rw [List.take_zero, List.map_nil, List.append_nil]; exact ha.car s3⟩, ?_⟩
    rintro j' n' acc' H4 ⟨rfl, hj', s4, hr4, ha4⟩ eD4
    have hx4 : SqR true s K H4 p' ys := by
      have hT4 : rT s K H4 (.ref p') (g x) := hin hr4
      rw [hys] at hT4
      exact hT4.sqr
    rcases Nat.lt_or_ge j' ys.length with lt' | ge'
    · refine .inr ⟨walkR_T.goes j' H4 lt' hx4, fun acc'' H' => j' + 1 ≤ ys.length ∧ Same H H' ∧ r K H' (.ref p') x ∧ AllR t K H' acc'' (((xs.take j).flatMap fun x => (g x).map (f x)) ++ (ys.take (j' + 1)).map (f x)), fun acc'' H' ⟨z1, z2, z3, z4⟩ => ⟨ys.length - (j' + 1), by omega, rfl, z1, z2, z3, z4⟩, fun z H5 y' => ?_⟩
      obtain ⟨s5, yy, hy, hsz⟩ := walkR_T.yields j' H4 z H5 lt' hx4 y'
      have s45 := s4.trans s5
      refine ⟨hw1 _ _, yesT ?_⟩
      refine hs x yy _ z H5 _ (List.mem_of_getElem? hx) (by rw [hys]; exact List.mem_of_getElem? hy) (carS s5 hr4) hsz s45 fun H6 qv s6 hq => ?_
      have eD6 : H6 D = some (.lst acc') := s6 _ _ (s5 _ _ eD4)
      have la := ha4.length
      rw [List.length_append, List.length_map, List.length_take] at la
      have hl : acc'.length ≤ 200000 := by
        have h1 := flen j
        have h2 : ys.length ≤ 100000 := by
          have : 1 * W ≤ xs.length * W := Nat.mul_le_mul_right _ (by omega)
          have := hW x
          rw [hys] at this
          omega
        omega
      refine ⟨eD6, len_big (by omega), fun H7 b7 e7 => ?_⟩
      refine ⟨lt', (s45.trans s6).but hD b7, CarB.car eD6 b7 (carS (s5.trans s6) hr4), ?_⟩
      · rw [take_snoc hy, List.map_append, ← List.append_assoc]
        exact ((ha4.car (s5.trans s6)).carB eD6 b7).snoc (CarB.car eD6 b7 hq)
    · obtain rfl : j' = ys.length := by omega
      rw [List.take_length] at ha4
      refine .inl ⟨walkR_T.stops H4 hx4, lt, s4, ?_⟩
      rw [et, List.flatMap_append, List.flatMap_cons, List.flatMap_nil, List.append_nil, hys]
      exact ha4
  · obtain rfl : j = xs.length := by omega
    rw [List.take_length] at ha
    exact .inl ⟨walkR_T.stops H2 (hp.car s2), q H2 D s2 hD ⟨D, acc, rfl, eD, ha⟩⟩

theorem k_setR [CarB r] {l : Addr} {xs : List α} {i : Int} {v : V} {x : α} {R : Hp → Prop} (h : rL r K H (.ref l) xs) (hv : r K H v x) (h0 : 0 ≤ i) (h1 : i < xs.length) (q : ∀ H', SameBut l H H' → rL r K H' (.ref l) (xs.set i.toNat x) → R H') : rSetL (.ref l) (.int i) v H R := by
  obtain ⟨a, vs, e, h2, h3⟩ := h
  cases e
  have hl := h3.length
  refine ⟨l, vs, i, i.toNat, rfl, rfl, h2, ?_, ?_⟩
  · unfold ixN
    rw [if_pos h0, if_pos (by omega)]
  · refine q _ SameBut.of_upd ⟨l, _, rfl, upd_same, ?_⟩
    have b : SameBut l H (upd H l (.lst (vs.set i.toNat v))) := SameBut.of_upd
    refine allR_of (by rw [List.length_set, List.length_set]; exact hl) fun j w hw => ?_
    have hj := (List.getElem?_eq_some_iff.mp hw).1
    rw [List.length_set] at hj
    by_cases e : i.toNat = j
    · subst e
      rw [List.getElem?_set_self hj] at hw
      cases hw
      exact ⟨x, List.getElem?_set_self (by omega), CarB.car h2 b hv⟩
    · rw [List.getElem?_set_ne e] at hw
      obtain ⟨y, h4, h5⟩ := h3.get hw
      exact ⟨y, by rw [List.getElem?_set_ne e]; exact h4, CarB.car h2 b h5⟩
theorem pair_two {H : Hp} {w : V} {p : Int × Int} (h : rPair rI rI K H w p) : rT rI K H w [p.1, p.2] := by
  obtain ⟨T, a, b, e, h1, h2, h3⟩ := h
  exact ⟨T, _, e, h1, h2, h3, trivial⟩
theorem pe_lc2N {X : Cx} {elt tg iter tg1 iter1 : Expr} {ifs ifs1 : List Expr} {scope : Scope} {own : List (Str × Nat)} {vs1 : List Nat} {pos : Pos} {wi wi1 : TI} {g g1 : TG} {tt tt1 : TT} {te : TE} (hc : X.calm = true) (hN : X.N.Nodup)
    (hi : PI X tg iter wi) (ok : BlkOk X.N X.env.scope scope own) (hv : ∀ i ∈ vs1, i ∈ own.map (·.2))
    (hg : ∀ (s : Shared) (H : Hp) (C : Addr) (cl : List (Str × Addr)) (fp : List Addr), PG (X.blk s H scope (compEnvC scope cl C X.env) fp) tg g) (ht : ∀ (s : Shared) (H : Hp) (C : Addr) (cl : List (Str × Addr)) (fp : List Addr), PTs (X.blk s H scope (compEnvC scope cl C X.env) fp) ifs tt)
    (hi1 : ∀ (s : Shared) (H : Hp) (C : Addr) (cl : List (Str × Addr)) (fp : List Addr), PI (X.blk s H scope (compEnvC scope cl C X.env) fp) tg1 iter1 wi1)
    (hg1 : ∀ (s : Shared) (H : Hp) (C : Addr) (cl : List (Str × Addr)) (fp : List Addr), PG (X.blk s H scope (compEnvC scope cl C X.env) fp) tg1 g1) (ht1 : ∀ (s : Shared) (H : Hp) (C : Addr) (cl : List (Str × Addr)) (fp : List Addr), PTs (X.blk s H scope (compEnvC scope cl C X.env) fp) ifs1 tt1)
    (he : ∀ (s : Shared) (H : Hp) (C : Addr) (cl : List (Str × Addr)) (fp : List Addr), PE (X.blk s H scope (compEnvC scope cl C X.env) fp) elt te) (hs : ∀ x, foldedSetIterable iter X.env x = pure x := by intro _; rfl) (hs1 : ∀ env x, foldedSetIterable iter1 env x = pure x := by intro _ _; rfl) :
    PE X (.ListComp elt [⟨tg, iter, ifs, 0⟩, ⟨tg1, iter1, ifs1, 0⟩] scope pos) (tLc2N wi g tt wi1 g1 tt1 te (own.map (·.2)) vs1) :=
  (pe_lc2 hc hN hi.up ok hv (fun s H C cl fp => (hg s H C cl fp).up) (fun s H C cl fp => (ht s H C cl fp).up) (fun s H C cl fp => (hi1 s H C cl fp).up) (fun s H C cl fp => (hg1 s H C cl fp).up) (fun s H C cl fp => (ht1 s H C cl fp).up) (fun s H C cl fp => (he s H C cl fp).up) hs hs1).imp fun σ H Q q => lc2_of q
/-! names -/
def okName (z : Str) : Prop := 1 ≤ z.length ∧ z.length ≤ 12 ∧ ∀ c ∈ z.cps.toList, 97 ≤ c ∧ c ≤ 122
instance : DecidablePred okName := fun z => by unfold okName; infer_instance
theorem sign_lt {a b : Nat} : decide ((⟨#[a]⟩ : Str).cps.toList < (⟨#[b]⟩ : Str).cps.toList) = decide (a < b) := by
  refine decide_eq_decide.mpr ?_
  show List.Lex (· < ·) [a] [b] ↔ a < b
  constructor
  · intro h
    cases h with
    | rel h => exact h
    | cons h => cases h
  · exact fun h => List.Lex.rel h
def great : Int := ((10 ^ 600 : Nat) : Int)
def inWay (p : Str × Rgs) (seen : List Str) : Option Bool :=
  if ¬ okName p.1 ∨ p.1 ∈ seen then some true else if ∃ r ∈ p.2, r.2 < r.1 then some true else if 8 < p.2.length ∨ ∃ r ∈ p.2, great ≤ (r.1.natAbs : Int) ∨ great ≤ (r.2.natAbs : Int) then some false else none
def dueIn : List (Str × Rgs) → List Str → Option Bool
  | [], _ => none
  | p :: r, seen => match inWay p seen with
    | some b => some b
    | none => dueIn r (seen ++ [p.1])
def dueC (ins : List (Str × Rgs)) : Option Bool := if 6 < ins.length then some false else dueIn ins []
theorem dueIn_app : ∀ (a b : List (Str × Rgs)) (seen : List Str), dueIn (a ++ b) seen = match dueIn a seen with
    | some x => some x
    | none => dueIn b (seen ++ a.map (·.1))
  | [], b, seen => by
    rw [List.map_nil, List.append_nil]
    rfl
  | p :: a, b, seen => by
    have ih := dueIn_app a b (seen ++ [p.1])
    have e1 : dueIn (p :: a ++ b) seen = match inWay p seen with
      | some b => some b
      | none => dueIn (a ++ b) (seen ++ [p.1]) := rfl
    have e2 : dueIn (p :: a) seen = match inWay p seen with
      | some b => some b
      | none => dueIn a (seen ++ [p.1]) := rfl
    rw [e1, e2]
    cases inWay p seen with
    | some x => rfl
    | none =>
      show dueIn (a ++ b) (seen ++ [p.1]) = match dueIn a (seen ++ [p.1]) with
        | some x => some x
        | none => dueIn b (seen ++ (p :: a).map (·.1))
      rw [ih, List.map_cons, List.append_assoc]
      rfl
def lanesOf (ins : List (Str × Rgs)) : List (Str × Int) := ins.map fun p => (p.1, (p.2.length : Int))
theorem lookup_lanes (n : Str) : ∀ ins : List (Str × Rgs), ((lanesOf ins).lookup n).isSome = decide (n ∈ ins.map (·.1))
  | [] => rfl
  | p :: ins => by
    show ((List.lookup n ((p.1, (p.2.length : Int)) :: lanesOf ins)).isSome) = _
    rw [List.lookup_cons, List.map_cons]
    by_cases e : n = p.1
    · rw [show (n == p.1) = true from beq_iff_eq.mpr e]
      simp [e]
    · rw [show (n == p.1) = false from beq_eq_false_iff_ne.mpr e, lookup_lanes n ins]
      simp [e]
end
end Pl

set_option Elab.async false
set_option linter.all false
set_option maxRecDepth 100000
set_option maxHeartbeats 4000000
namespace Pl
open PySem PySem.Spec PyProof.Rows L2 RZ
section
variable {P : Program} {w : World} {K : PySem.W.Frag} {mg : Str → Option Value} {base : Heap} [SupP P]
/-! what a raised error of our own leaves -/
def Ex0 (K : PySem.W.Frag) (E : XK) (H : Hp) (C : Str) : Prop := ∀ H', Same H H' → E (.ref (He.ga K C)) none H'
def Ex1 (K : PySem.W.Frag) (E : XK) (H : Hp) (C f : Str) (v : V) : Prop := ∀ d H', Same H H' → H' d = some (.xd [(f, v)]) → E (.ref (He.ga K C)) (some d) H'
theorem Ex0.same {K : PySem.W.Frag} {E : XK} {H H1 : Hp} {C : Str} (h : Ex0 K E H C) (s : Same H H1) : Ex0 K E H1 C := fun H' s' => h H' (s.trans s')
theorem Ex1.same {K : PySem.W.Frag} {E : XK} {H H1 : Hp} {C f : Str} {v : V} (h : Ex1 K E H C f v) (s : Same H H1) : Ex1 K E H1 C f v := fun d H' s' e => h d H' (s.trans s') e
theorem Ex1.go {K : PySem.W.Frag} {E : XK} {H : Hp} {C f : Str} {v : V} (h : Ex1 K E H C f v) : ∀ d H', Same H H' → H d = none → H' d = some (.xd [(f, v)]) → E (.ref (He.ga K C)) (some d) H' := fun d H' s _ e => h d H' s e
local macro_rules | `(tactic| exists cgs) => `(tactic| repeat (first | with_reducible apply cg.md | with_reducible apply cg.add | with_reducible apply cg.sub | with_reducible apply cg.mul | with_reducible apply cg.neg | with_reducible exact cg.rf))
local macro_rules | `(tactic| exists cgm) => `(tactic| (apply cg.em; (focus exists cgs); (focus exists cgs); (focus grind)))
local macro_rules | `(tactic| exists hp) => `(tactic| first | assumption | (apply WrapAt.same; (focus assumption); exists hp) | (apply Same.seqT; (focus assumption); exists hp) | (apply Same.seq; (focus assumption); exists hp) | (apply Same.sq; (focus assumption); exists hp) | ((with_reducible apply same_at); (focus assumption); exists hp) | ((with_reducible apply same_trans); (focus assumption); exists hp) | (with_reducible exact Same.refl _))
local macro_rules | `(tactic| exists st) => `(tactic| first | ((with_reducible apply k_var); (focus exact rfl)) | (with_reducible refine k_c ?_) | (with_reducible refine k_op ?_) | (with_reducible refine k_un ?_) | (with_reducible refine k_test ?_) | (with_reducible refine k_tB ?_) | (with_reducible refine k_not ?_) | (with_reducible refine k_or ?_) | (with_reducible refine k_and ?_) | (with_reducible refine k_yes ?_) | (with_reducible refine k_andV ?_) | (with_reducible refine k_orV ?_) | (with_reducible refine k_notV ?_) | (with_reducible refine k_if ?_) | (with_reducible refine k_seq ?_) | (with_reducible refine k_next ?_) | (with_reducible refine k_drop ?_) | (with_reducible refine k_ret ?_) | (with_reducible refine k_retN ?_) | (with_reducible refine k_ifS ?_) | (with_reducible refine k_asg ?_) | (with_reducible refine k_name ?_) | (with_reducible refine k_nil ?_) | (with_reducible refine k_cons ?_) | (with_reducible refine k_call ?_) | (with_reducible refine k_cb ?_) | (with_reducible refine k_lst ?_) | (with_reducible refine k_tup ?_) | (with_reducible refine k_bl ?_) | (with_reducible refine k_i0 ?_) | (with_reducible refine k_u ?_) | (with_reducible refine k_eqI ?_) | (with_reducible refine k_eqB ?_) | (with_reducible refine k_neI ?_) | (with_reducible refine k_ifT ?_) | (with_reducible refine k_ifF ?_) | (with_reducible refine k_ifnT ?_) | (with_reducible refine k_ifnF ?_) | (with_reducible refine k_bl2 ?_) | (with_reducible refine k_ifdR ?_) | (with_reducible refine k_ifndR ?_) | (with_reducible refine k_int ?_) | (with_reducible refine k_ref ?_) | (with_reducible refine k_isB ?_) | (with_reducible refine k_meth ?_) | (with_reducible refine k_fld ?_))
local macro_rules | `(tactic| exists go) => `(tactic| repeat (exists st))
local macro_rules | `(tactic| exists yes) => `(tactic| first | (with_reducible refine k_ifdT (by first | rfl | omega) ?_) | (with_reducible refine k_ifndF (by first | rfl | omega) ?_))
local macro_rules | `(tactic| exists no) => `(tactic| first | (with_reducible refine k_ifdF (by omega) ?_) | (with_reducible refine k_ifndT (by omega) ?_))
local macro_rules | `(tactic| exists st) => `(tactic| first | ((with_reducible apply k_var); (focus exact rfl)) | (with_reducible refine k_c ?_) | (with_reducible refine k_op ?_) | (with_reducible refine k_un ?_) | (with_reducible refine k_test ?_) | (with_reducible refine k_tB ?_) | (with_reducible refine k_not ?_) | (with_reducible refine k_or ?_) | (with_reducible refine k_and ?_) | (with_reducible refine k_yes ?_) | (with_reducible refine k_andV ?_) | (with_reducible refine k_orV ?_) | (with_reducible refine k_notV ?_) | (with_reducible refine k_if ?_) | (with_reducible refine k_seq ?_) | (with_reducible refine k_next ?_) | (with_reducible refine k_drop ?_) | (with_reducible refine k_ret ?_) | (with_reducible refine k_retN ?_) | (with_reducible refine k_ifS ?_) | (with_reducible refine k_asg ?_) | (with_reducible refine k_name ?_) | (with_reducible refine k_nil ?_) | (with_reducible refine k_cons ?_) | (with_reducible refine k_call ?_) | (with_reducible refine k_cb ?_) | (with_reducible refine k_lst ?_) | (with_reducible refine k_tup ?_) | (with_reducible refine k_bl ?_) | (with_reducible refine k_i0 ?_) | (with_reducible refine k_u ?_) | (with_reducible refine k_eqI ?_) | (with_reducible refine k_eqB ?_) | (with_reducible refine k_neI ?_) | (with_reducible refine k_ifT ?_) | (with_reducible refine k_ifF ?_) | (with_reducible refine k_ifnT ?_) | (with_reducible refine k_ifnF ?_) | (with_reducible refine k_bl2 ?_) | (with_reducible refine k_ifdR ?_) | (with_reducible refine k_ifndR ?_) | (with_reducible refine k_int ?_) | (with_reducible refine k_ref ?_) | (with_reducible refine k_isB ?_) | (with_reducible refine k_meth ?_) | (with_reducible refine k_fld ?_) | (with_reducible refine k_callS ?_) | (with_reducible refine k_methS ?_) | (with_reducible refine k_opS ?_) | (with_reducible refine k_smethS ?_) | (with_reducible refine k_atEnd ?_) | (with_reducible refine k_atRt ?_) | (with_reducible refine k_nonR ?_) | (with_reducible refine k_makeS ?_) | (with_reducible refine k_make ?_) | (with_reducible refine k_refnon ?_) | (with_reducible refine k_par ?_) | (with_reducible refine k_par3 ?_) | (with_reducible refine k_two ?_) | (with_reducible refine k_three ?_) | (with_reducible refine k_smeth ?_) | (with_reducible refine k_self ?_) | (with_reducible refine k_neS ?_) | (with_reducible refine k_eqS ?_) | (with_reducible refine k_chain ?_) | ((with_reducible apply k_newT); (focus exact Nat.le_of_ble_eq_true rfl); intro _ _ _ _) | ((with_reducible apply k_newL); (focus exact Nat.le_of_ble_eq_true rfl); intro _ _ _ _ _))
local macro_rules | `(tactic| exists st) => `(tactic| first | (with_reducible refine k_ex1 ?_) | (with_reducible refine k_ex0 ?_) | (with_reducible refine k_lcR1 ?_) | (with_reducible refine k_lcR2 ?_) | (with_reducible refine k_lcL ?_) | (with_reducible refine k_lcT ?_) | (with_reducible refine k_lcQ ?_) | (with_reducible refine k_neB ?_) | (with_reducible refine k_bits ?_) | (with_reducible refine k_prop ?_) | (with_reducible refine k_sl ?_) | (with_reducible refine k_noPart ?_) | (with_reducible refine k_part ?_))
local macro_rules | `(tactic| exists sd) => `(tactic| first | exact ⟨by decide, by decide⟩ | exact Or.inr ⟨by decide, by decide⟩ | exact Or.inl ⟨by decide, by decide⟩ | exact ⟨by decide, by decide, by decide⟩ | exact Or.inl ⟨by omega, by omega⟩ | exact Or.inr ⟨by omega, by omega⟩ | exact ⟨by omega, by omega⟩ | decide | omega)
local macro_rules | `(tactic| exists st) => `(tactic| ((with_reducible apply k_iC); (focus exists sd)))
local macro_rules | `(tactic| exists hp) => `(tactic| first | assumption | ((with_reducible apply carS); (focus assumption); exists hp) | ((with_reducible apply carK); (focus assumption); exists hp) | ((with_reducible apply rL_q); exists hp) | ((with_reducible apply rT_q); exists hp))
local macro_rules | `(tactic| exists st) => `(tactic| first | (with_reducible refine k_forEn ?_) | (with_reducible refine k_forEnK ?_) | (with_reducible refine k_forZipQ ?_) | (with_reducible refine k_lcEn ?_) | (with_reducible refine k_lcZipQ ?_))
local macro_rules | `(tactic| exists st) => `(tactic| first | (with_reducible refine k_tupZip ?_))
local macro_rules | `(tactic| exists st) => `(tactic| first | (with_reducible refine k_rawT ?_) | (with_reducible refine k_tJoin ?_) | (with_reducible refine k_lcStr ?_) | (with_reducible refine k_dIn ?_) | (with_reducible refine k_dPut ?_) | (with_reducible refine k_dNew ?_))
local macro_rules | `(tactic| exists hp) => `(tactic| first | assumption | ((with_reducible apply carS); (focus assumption); exists hp) | ((with_reducible apply carM); (focus assumption); exists hp) | ((with_reducible apply rL_q); exists hp) | ((with_reducible apply rT_q); exists hp))
def spIsName : Sp := fun vs H Q _ => ∃ z, vs = [.str z] ∧ z.length ≤ 100000 ∧ ∀ H', Same H H' → Q (.bl (decide (okName z))) H'
theorem ok_is_name (T : Txt K mg) : FnOk P w K mg base CX0 1 (He.fAd K ("is_name", none)) T.d_is_name ["word"] spIsName := by
  refine FunD.ok T.fn_is_name sc_is_name (fun vs H Q E h => ?_) (fun cdv A outer s H vs Q E hr h => ?_)
  · obtain ⟨z, rfl, _⟩ := h
    rfl
  · obtain ⟨z, rfl, hz, q⟩ := h
    refine ⟨_, PSs.nox (pss_cons (ps_if (PW.pt (pw_or (pt_not (pt_val (pe_callB (call_isTy (K := K) (b := "str")) (by rfl) T.z_isinstance (by decide +kernel) (pa_cons (pv 0) (pa_cons (pe_bltn (v := .ty "str") (u := .type "str") (by rfl) T.z_str (by decide +kernel) rfl) pa_nil))))) (pw_or1 (pt_not (pt_chain op_le op_le pe_int (pe_callB call_lenS (by rfl) T.z_len PySem.boot_len (pa_cons (pv 0) pa_nil)) (pe_glob (v := .int 12) rfl T.g__MOST_LETTERS.choose_spec ⟨_, rfl⟩))))))
  (pss_one (ps_ret pe_bl))
  pss_nil)
  (pss_one (ps_ret (pe_callB (call_allK (K := K) rfl) (by rfl) T.z_all (by decide +kernel) (pa_cons (pe_lcN (own := [("letter", 1)]) rfl sc_is_name.nd (pi_str (pv 0)) (blkOk_by (own := [("letter", 1)]) (N := ["word", "letter"]) (sc := defScope s_is_name) (by decide +kernel)) (fun _ _ _ _ _ => (pg_name (i := 1) sc_is_name.nd rfl (Or.inl rfl))) (fun _ _ _ _ _ => pts_nil) (fun _ _ _ _ _ => (pe_chain op_leS op_leS pe_str (pv 1) pe_str))) pa_nil))))), ?_⟩
    exists go
    refine k_isStr ?_
    exists go
    refine k_lenS (by omega) ?_
    exists go
    have nameF : ¬ (1 ≤ z.length ∧ z.length ≤ 12) → Q (.bl false) H := fun g => by
      have e := q H (Same.refl H)
      rw [decide_eq_false fun o : okName z => g ⟨o.1, o.2.1⟩] at e
      exact e
    have nameT : 1 ≤ z.length ∧ z.length ≤ 12 → tRet (tCB (rAll K) (tCons (tLcN (iStr (tVar 0)) (gName 1) tYes (tChain rLeS rLeS (tC (V.str (Str.ofString "a"))) (tVar 1) (tC (V.str (Str.ofString "z")))) (List.map (fun x => x.snd) [(Str.ofString "letter", 1)])) tNil)) { nx := fun x H' => Q V.non H', rt := Q } (L2.start [Str.ofString "word", Str.ofString "letter"] [V.str z]) H := fun g => by
      exists go
      refine k_lcMS (s := rB) (K := K) (fun c => decide (97 ≤ c ∧ c ≤ 122)) hz (fun c w H2 X Z hc hw s2 hX => ?_) fun H2 D s2 hD hL => ?_
      · cases hw
        refine ⟨rfl, ?_⟩
        exists go
        refine k_leS ?_
        refine ⟨_, rfl, ?_⟩
        have e1 : (!decide ((⟨#[c]⟩ : Str).cps.toList < (Str.ofString "a").cps.toList)) = decide (97 ≤ c) := by
          have := sign_lt (a := c) (b := 97)
          rw [show (Str.ofString "a") = (⟨#[97]⟩ : Str) by decide, this]
          by_cases g : c < 97
          · rw [decide_eq_true g, decide_eq_false (by omega)]
            rfl
          · rw [decide_eq_false g, decide_eq_true (by omega)]
            rfl
        have e2 : (!decide ((Str.ofString "z").cps.toList < (⟨#[c]⟩ : Str).cps.toList)) = decide (c ≤ 122) := by
          have := sign_lt (a := 122) (b := c)
          rw [show (Str.ofString "z") = (⟨#[122]⟩ : Str) by decide, this]
          by_cases g : 122 < c
          · rw [decide_eq_true g, decide_eq_false (by omega)]
            rfl
          · rw [decide_eq_false g, decide_eq_true (by omega)]
            rfl
        rw [e1]
        by_cases g1 : 97 ≤ c
        · rw [decide_eq_true g1, if_pos rfl]
          exists go
          refine k_leS ?_
          rw [e2]
          refine hX H2 _ (Same.refl _) ?_
          show V.bl _ = V.bl _
          congr 1
          exact decide_eq_decide.mpr ⟨fun h => ⟨g1, h⟩, fun h => h.2⟩
        · rw [decide_eq_false g1, if_neg (by decide)]
          refine hX H2 _ (Same.refl _) ?_
          show V.bl _ = V.bl _
          rw [decide_eq_false fun h => g1 h.1]
      · exists go
        refine k_allR (K := K) hL ?_
        have e := q H2 s2
        have e3 : decide (okName z) = (z.cps.toList.map fun c => decide (97 ≤ c ∧ c ≤ 122)).all id := by
          rw [List.all_map]
          by_cases o : okName z
          · rw [decide_eq_true o]
            exact (List.all_eq_true.mpr fun c hc => decide_eq_true (o.2.2 c hc)).symm
          · rw [decide_eq_false o]
            refine (Bool.eq_false_iff.mpr fun h => o ⟨g.1, g.2, fun c hc => of_decide_eq_true (List.all_eq_true.mp h c hc)⟩).symm
        rw [e3] at e
        exact e
    refine iteB (fun g1 => ?_) fun g1 => ?_
    · exists go
      by_cases g2 : (z.length : Int) ≤ 12
      · rw [decide_eq_true g2]
        exists st
        exact nameT ⟨by omega, by omega⟩
      · rw [decide_eq_false g2]
        exists go
        exact nameF fun g => g2 (by omega)
    · exists go
      exact nameF fun g => g1 (by omega)
theorem natAbs_if (z : Int) : (z.natAbs : Int) = if z < 0 then -z else z := by split <;> omega
def spTooLong : Sp := fun vs H Q _ => ∃ n : Int, vs = [.int n] ∧ Q (.bl (decide (great ≤ (n.natAbs : Int)))) H
theorem ok__is_too_long (T : Txt K mg) : FnOk P w K mg base CX0 1 (He.fAd K ("_is_too_long", none)) T.d__is_too_long ["number"] spTooLong := by
  refine FunD.ok T.fn__is_too_long sc__is_too_long (fun vs H Q E h => ?_) (fun cdv A outer s H vs Q E hr h => ?_)
  · obtain ⟨z, rfl, _⟩ := h
    rfl
  · obtain ⟨z, rfl, q⟩ := h
    refine ⟨_, PSs.nox (pss_one (ps_ret (pe_cmpR op_ge (pe_callB call_abs (by rfl) T.z_abs (by decide +kernel) (pa_cons (pv 0) pa_nil)) (pe_glob (v := .int 1000000000000000000000000000000000000000000000000000000000000000000000000000000000000000000000000000000000000000000000000000000000000000000000000000000000000000000000000000000000000000000000000000000000000000000000000000000000000000000000000000000000000000000000000000000000000000000000000000000000000000000000000000000000000000000000000000000000000000000000000000000000000000000000000000000000000000000000000000000000000000000000000000000000000000000000000000000000000000000000000000000000000000000000000000000000000000000000000000000000000000000000000000000000000000000000000000000000000000000000000) rfl T.g__TOO_LONG.choose_spec ⟨_, rfl⟩) (nomark _)))), ?_⟩
    exists go
    refine ⟨z, rfl, ?_⟩
    exists go
    have e : decide (great ≤ (z.natAbs : Int)) = decide (great ≤ if z < 0 then -z else z) := by
      rw [natAbs_if]
    rw [e] at q
    exact q
theorem any_decR {α : Type} (p : α → Prop) [DecidablePred p] (xs : List α) : (xs.map fun x => decide (p x)).any id = decide (∃ x ∈ xs, p x) := by
  rw [List.any_map]
  by_cases h : ∃ x ∈ xs, p x
  · rw [decide_eq_true h]
    obtain ⟨x, hx, hp⟩ := h
    exact List.any_eq_true.mpr ⟨x, hx, decide_eq_true hp⟩
  · rw [decide_eq_false h]
    refine Bool.eq_false_iff.mpr fun z => ?_
    obtain ⟨x, hx, hp⟩ := List.any_eq_true.mp z
    exact h ⟨x, hx, of_decide_eq_true hp⟩
theorem any_two (p : Int → Prop) [DecidablePred p] (xs : Rgs) : (xs.flatMap fun x => [x.1, x.2].map fun z => decide (p z)).any id = decide (∃ x ∈ xs, p x.1 ∨ p x.2) := by
  by_cases h : ∃ x ∈ xs, p x.1 ∨ p x.2
  · rw [decide_eq_true h]
    obtain ⟨x, hx, hp⟩ := h
    refine List.any_eq_true.mpr ⟨true, List.mem_flatMap.mpr ⟨x, hx, ?_⟩, rfl⟩
    rcases hp with hp | hp
    · exact List.mem_cons.mpr (.inl (decide_eq_true hp).symm)
    · exact List.mem_cons.mpr (.inr (List.mem_cons.mpr (.inl (decide_eq_true hp).symm)))
  · rw [decide_eq_false h]
    refine Bool.eq_false_iff.mpr fun z => ?_
    obtain ⟨b, hb, hp⟩ := List.any_eq_true.mp z
    obtain ⟨x, hx, hm⟩ := List.mem_flatMap.mp hb
    have hp : b = true := hp
    subst hp
    rcases List.mem_cons.mp hm with e | hm
    · exact h ⟨x, hx, .inl (of_decide_eq_true e.symm)⟩
    · exact h ⟨x, hx, .inr (of_decide_eq_true (List.mem_singleton.mp hm).symm)⟩
def spCheckIn (K : PySem.W.Frag) : Sp := fun vs H Q E => ∃ (n : Str) (R : V) (d : Addr) (rs : Rgs) (ins : List (Str × Rgs)), vs = [.str n, R, .ref d] ∧ n.length ≤ 100000 ∧ rT rRg K H R rs ∧ rs.length ≤ 1000 ∧ rDct (lanesOf ins) H d ∧
  (inWay (n, rs) (ins.map (·.1)) = some true → Ex1 K E H "BadCode" "number" .non) ∧ (inWay (n, rs) (ins.map (·.1)) = some false → Ex0 K E H "TooGreat") ∧ (inWay (n, rs) (ins.map (·.1)) = none → ∀ H', Same H H' → Q .non H')
theorem ok__check_input (T : Txt K mg) : FnOk P w K mg base (L2.CX P w) 3 (He.fAd K ("_check_input", none)) T.d__check_input ["name", "ranges", "lanes"] (spCheckIn K) := by
  refine FunD.ok T.fn__check_input sc__check_input (fun vs H Q E h => ?_) (fun cdv A outer s H vs Q E hr h => ?_)
  · obtain ⟨n, R, d, rs, ins, rfl, _⟩ := h
    rfl
  · obtain ⟨n, R, d, rs, ins, rfl, hn, hR, hrs, hd, h1, h2, h3⟩ := h
    refine ⟨_, (pss_cons (ps_if (PW.pt (pw_or (pt_not (pt_val (pe_call (ok_is_name T) (hr.mono (by decide)) (by rfl) T.m_is_name T.fn_is_name.kp T.b_is_name .nil pass0 (pa_cons (pv 0) pa_nil)))) (pw_or1 (pt_cmp (pc_din (hu_of hr) (pv 0) (pv 2))))))
  (pss_one (ps_raise rfl tkx (pmk_e1 T.x_BadCode (oki_BadCode T) (hr.mono (by decide)) T.be_BadCode (by rfl) T.m_BadCode pe_non)))
  pss_nil)
  (pss_cons (ps_if (pt_val (pe_callB (call_anyK (K := K) rfl) (by rfl) T.z_any (by decide +kernel) (pa_cons (pe_lcN (own := [("least", 3), ("greatest", 4)]) rfl sc__check_input.nd (pi_tupK (K := K) (pv 1)) (blkOk_by (own := [("least", 3), ("greatest", 4)]) (N := ["name", "ranges", "lanes", "least", "greatest", "pair", "end"]) (sc := defScope s__check_input) (by decide +kernel)) (fun _ _ _ _ _ => (pg_pair (K := K) (i := 3) (j := 4) rfl sc__check_input.nd rfl rfl (Or.inl rfl) (Or.inl rfl))) (fun _ _ _ _ _ => pts_nil) (fun _ _ _ _ _ => (pe_cmpR op_gt (pv 3) (pv 4) (nomark _)))) pa_nil)))
  (pss_one (ps_raise rfl tkx (pmk_e1 T.x_BadCode (oki_BadCode T) (hr.mono (by decide)) T.be_BadCode (by rfl) T.m_BadCode pe_non)))
  pss_nil)
  (pss_one (ps_if (PW.pt (pw_or (pt_cmpR op_gt (pe_callB (call_lenK (K := K)) (by rfl) T.z_len PySem.boot_len (pa_cons (pv 1) pa_nil)) (pe_glob (v := .int 8) rfl T.g__MOST_RANGES.choose_spec ⟨_, rfl⟩) (nomark _)) (pw_or1 (pt_val (pe_callB (call_anyK (K := K) rfl) (by rfl) T.z_any (by decide +kernel) (pa_cons (pe_lc2N (own := [("pair", 5), ("end", 6)]) (vs1 := [6]) rfl sc__check_input.nd (pi_tupK (K := K) (pv 1)) (blkOk_by (own := [("pair", 5), ("end", 6)]) (N := ["name", "ranges", "lanes", "least", "greatest", "pair", "end"]) (sc := defScope s__check_input) (by decide +kernel)) (by decide) (fun _ _ _ _ _ => (pg_name (i := 5) sc__check_input.nd rfl (Or.inl rfl))) (fun _ _ _ _ _ => pts_nil) (fun _ _ _ _ _ => (pi_tupK (K := K) (pv 5))) (fun _ _ _ _ _ => (pg_name (i := 6) sc__check_input.nd rfl (Or.inl rfl))) (fun _ _ _ _ _ => pts_nil) (fun _ _ _ _ _ => (pe_call (ok__is_too_long T) (hr.mono (by decide)) (by rfl) T.m__is_too_long T.fn__is_too_long.kp T.b__is_too_long .nil pass0 (pa_cons (pv 6) pa_nil)))) pa_nil))))))
  (pss_one (ps_raise rfl tkx (pmk_e0 T.x_TooGreat (oki_TooGreat T) (hr.mono (by decide)) T.be_TooGreat (by rfl) T.m_TooGreat)))
  pss_nil)))), ?_⟩
    exists go
    refine ⟨n, rfl, hn, fun H1 s1 => ?_⟩
    exists go
    by_cases g1 : okName n
    · rw [decide_eq_true g1]
      exists go
      refine ⟨d, _, rfl, k_dget (s1 _ _ hd), ?_⟩
      rw [Option.isSome_map, lookup_lanes]
      refine ⟨_, rfl, iteB (fun g2 => ?_) fun g2 => ?_⟩
      · have e : inWay (n, rs) (ins.map (·.1)) = some true := if_pos (.inr g2)
        exists go
        exact ((h1 e).same s1).go
      have b1 : ¬ (¬ okName n ∨ n ∈ ins.map (·.1)) := fun z => z.elim (fun z => z g1) g2
      have R1 : rT rRg K H1 R rs := carS s1 hR
      exists go
      refine k_lcMT (r := rRg) (s := rB) (K := K) (fun p => decide (p.2 < p.1)) R1 (by omega) (fun p w H2 X Z hp hw s2 hX => ?_) fun H2 D s2 hD hL => ?_
      · refine g_pairI hw ⟨rfl, ?_⟩
        exists go
        exact hX H2 _ (Same.refl _) rfl
      exists go
      refine k_anyR (K := K) hL ?_
      rw [any_decR]
      refine ⟨_, rfl, iteB (fun g3 => ?_) fun g3 => ?_⟩
      · have e : inWay (n, rs) (ins.map (·.1)) = some true := (if_neg b1).trans (if_pos g3)
        exists go
        exact ((h1 e).same (s1.trans s2)).go
      have R2 : rT rRg K H2 R rs := carS s2 R1
      exists go
      refine k_lenR (K := K) (rT_q R2) ?_
      exists go
      refine iteB (fun g4 => ?_) fun g4 => ?_
      · have e : inWay (n, rs) (ins.map (·.1)) = some false := (if_neg b1).trans ((if_neg g3).trans (if_pos (.inl (by show 8 < rs.length; omega))))
        exists go
        exact (h2 e).same (s1.trans s2)
      exists go
      refine k_lc2I (r := rRg) (s := rI) (t := rB) (fun p : Int × Int => [p.1, p.2]) 2 pair_two (fun _ z => decide (great ≤ (z.natAbs : Int))) R2 (fun _ => Nat.le_refl _) (by omega) (fun p y w z H3 X hp hy hw hz s3 hX => ?_) fun H3 D3 s3 hD3 hL3 => ?_
      · cases hz
        exists go
        exact ⟨y, rfl, hX H3 _ (Same.refl _) rfl⟩
      exists go
      refine k_anyR (K := K) hL3 ?_
      rw [any_two]
      refine ⟨_, rfl, iteB (fun g5 => ?_) fun g5 => ?_⟩
      · have e : inWay (n, rs) (ins.map (·.1)) = some false := (if_neg b1).trans ((if_neg g3).trans (if_pos (.inr g5)))
        exists go
        exact (h2 e).same ((s1.trans s2).trans s3)
      · have e : inWay (n, rs) (ins.map (·.1)) = none := (if_neg b1).trans ((if_neg g3).trans (if_neg fun z => z.elim (fun z => g4 (by have z : 8 < rs.length := z; omega)) g5))
        exists go
        exact h3 e H3 ((s1.trans s2).trans s3)
    · rw [decide_eq_false g1]
      have e : inWay (n, rs) (ins.map (·.1)) = some true := if_pos (.inl g1)
      exists go
      exact ((h1 e).same s1).go
/-! the lanes that are counted: of inputs alone -/
abbrev rIns : Rel (List (Str × Rgs)) := rT (rPair rS (rT rRg))
def Inb (ins : List (Str × Rgs)) : Prop := ins.length ≤ 1000 ∧ ∀ p ∈ ins, p.1.length ≤ 100000 ∧ p.2.length ≤ 1000
theorem due_at {ins : List (Str × Rgs)} {i : Nat} {p : Str × Rgs} (hx : ins[i]? = some p) (u : dueIn (ins.take i) [] = none) : (∀ x, inWay p ((ins.take i).map (·.1)) = some x → dueIn ins [] = some x) ∧ (inWay p ((ins.take i).map (·.1)) = none → dueIn (ins.take (i + 1)) [] = none) := by
  have hi : i < ins.length := (List.getElem?_eq_some_iff.mp hx).1
  have e : dueIn (ins.take (i + 1)) [] = inWay p ((ins.take i).map (·.1)) := by
    rw [take_snoc hx, dueIn_app, u, List.nil_append]
    show (match inWay p ((ins.take i).map (·.1)) with | some b => some b | none => none) = _
    cases inWay p ((ins.take i).map (·.1)) <;> rfl
  refine ⟨fun x h => ?_, fun h => e.trans h⟩
  have := dueIn_app (ins.take (i + 1)) (ins.drop (i + 1)) []
  rw [List.take_append_drop, e, h] at this
  exact this
theorem not_yet {ins : List (Str × Rgs)} {p : Str × Rgs} (h : inWay p (ins.map (·.1)) = none) : (lanesOf ins).lookup p.1 = none := by
  have g : ¬ (¬ okName p.1 ∨ p.1 ∈ ins.map (·.1)) := fun z => by
    rw [show inWay p (ins.map (·.1)) = some true from if_pos z] at h
    cases h
  have := lookup_lanes p.1 ins
  rw [decide_eq_false fun z => g (.inr z)] at this
  exact Option.isSome_eq_false_iff.mp this |> Option.isNone_iff_eq_none.mp
def spCounted (K : PySem.W.Frag) : Sp := fun vs H Q E => ∃ (I : V) (sa : Addr) (ins : List (Str × Rgs)), vs = [I, .ref sa] ∧ rIns K H I ins ∧ SqT K H sa [] ∧ Inb ins ∧ (dueC ins = some true → Ex1 K E H "BadCode" "number" .non) ∧ (dueC ins = some false → Ex0 K E H "TooGreat") ∧
  (dueC ins = none → ∀ H' d, Same H H' → rDct (lanesOf ins) H' d → Q (.ref d) H')
theorem ok__counted_lanes (T : Txt K mg) : FnOk P w K mg base (L2.CX P w) 4 (He.fAd K ("_counted_lanes", none)) T.d__counted_lanes ["inputs", "steps"] (spCounted K) := by
  refine FunD.ok T.fn__counted_lanes sc__counted_lanes (fun vs H Q E h => ?_) (fun cdv A outer s H vs Q E hr h => ?_)
  · obtain ⟨I, sa, ins, rfl, _⟩ := h
    rfl
  · obtain ⟨I, sa, ins, rfl, hI, hS, hb, h1, h2, h3⟩ := h
    refine ⟨_, (pss_cons (ps_if (pt_cmpR op_gt (pe_callB (call_lenK (K := K)) (by rfl) T.z_len PySem.boot_len (pa_cons (pv 0) pa_nil)) (pe_glob (v := .int 6) rfl T.g__MOST_INPUTS.choose_spec ⟨_, rfl⟩) (nomark _))
  (pss_one (ps_raise rfl tkx (pmk_e0 T.x_TooGreat (oki_TooGreat T) (hr.mono (by decide)) T.be_TooGreat (by rfl) T.m_TooGreat)))
  pss_nil)
  (pss_cons (ps_set (i := 2) sc__counted_lanes.nd rfl (Or.inl rfl) pe_dnewK)
  (pss_cons (ps_for pown rfl (pi_tupK (K := K) (pv 0)) (pg_pair (K := K) (i := 3) (j := 4) rfl sc__counted_lanes.nd rfl rfl (Or.inl rfl) (Or.inl rfl))
  (pss_cons (ps_expr (pe_call (ok__check_input T) (hr.mono (by decide)) (by rfl) T.m__check_input T.fn__check_input.kp T.b__check_input .nil pxx (pa_cons (pv 3) (pa_cons (pv 4) (pa_cons (pv 2) pa_nil)))))
  (pss_one (ps_dput (hu_of hr) (pv 2) (pv 3) (pe_callB (call_lenK (K := K)) (by rfl) T.z_len PySem.boot_len (pa_cons (pv 4) pa_nil)) (by rfl)))))
  (pss_cons (ps_set (i := 5) sc__counted_lanes.nd rfl (Or.inl rfl) (pe_callTy (call_listDK rfl) (by rfl) T.z_list (by decide +kernel) (pa_cons (pv 2) pa_nil)))
  (pss_cons (ps_set (i := 6) sc__counted_lanes.nd rfl (Or.inl rfl) pe_int)
  (pss_cons (ps_for pown rfl (pi_tupK (K := K) (pv 1)) (pg_name (i := 7) sc__counted_lanes.nd rfl (Or.inl rfl))
  (pss_cons ps_never
  (pss_cons ps_never
  (pss_cons ps_never
  (pss_cons ps_never
  (pss_one ps_never))))))
  (pss_one (ps_ret (pv 2))))))))), ?_⟩
    exists go
    refine k_lenR (K := K) (rT_q hI) ?_
    exists go
    refine iteB (fun g1 => ?_) fun g1 => ?_
    · have e : dueC ins = some false := if_pos (by omega)
      exists go
      exact (h2 e).same (Same.refl _)
    have e0 : dueC ins = dueIn ins [] := if_neg (by omega)
    rw [e0] at h1 h2 h3
    exists go
    intro d hd0
    have s1 : Same H (upd H d (.dK [])) := same_upd hd0
    have e1 : rDct (lanesOf (ins.take 0)) (upd H d (.dK [])) d := by
      rw [List.take_zero]
      exact upd_same
    generalize upd H d (.dK []) = H1 at s1 e1 ⊢
    exists go
    refine k_forT ?_
    exists go
    refine k_forTR (r := rPair rS (rT rRg)) (K := K) (fun i σ H' => Same H H' ∧ rDct (lanesOf (ins.take i)) H' d ∧ dueIn (ins.take i) [] = none ∧ ∃ z3 z4 z5 z6 z7, σ = [some I, some (.ref sa), some (.ref d), z3, z4, z5, z6, z7]) (carS s1 hI) ⟨s1, e1, rfl, none, none, none, none, none, rfl⟩ (fun i σ H' hi p => carS p.1 hI) (fun i p w σ H2 H3 hx hi hP s3 hw => ?_) fun σ H2 hP => ?_
    · obtain ⟨s2, d2, u2, z3, z4, z5, z6, z7, rfl⟩ := hP
      refine g_pairR hw fun a b ha hb2 => ?_
      obtain ⟨rfl, hok⟩ := ha
      have hd3 := s3 _ _ d2
      have hbp := hb.2 p (List.mem_of_getElem? hx)
      have da := due_at hx u2
      exists go
      refine ⟨p.1, b, d, p.2, ins.take i, rfl, hbp.1, hb2, hbp.2, hd3, fun e => (h1 (da.1 _ e)).same (s2.trans s3), fun e => (h2 (da.1 _ e)).same (s2.trans s3), fun e H4 s4 => ?_⟩
      have hT4 : rT rRg K H4 b p.2 := carS s4 hb2
      exists go
      refine k_lenR (K := K) (rT_q hT4) ?_
      exists go
      obtain ⟨H5, dp, b5, e5⟩ := k_dput (k := (p.2.length : Int)) (s4 _ _ hd3) (by unfold lanesOf; rw [List.length_map, List.length_take]; have := hb.1; omega) (not_yet e)
      refine ⟨d, H5, rfl, dp, ((s2.trans s3).trans s4).but hd0 b5, ?_, da.2 e, _, _, _, _, _, rfl⟩
      rw [take_snoc hx]
      unfold lanesOf at e5 ⊢
      rw [List.map_append]
      exact e5
    obtain ⟨s2, d2, u2, z3, z4, z5, z6, z7, rfl⟩ := hP
    rw [List.take_length] at d2 u2
    exists go
    refine ⟨d, _, rfl, d2, fun q hq => ?_⟩
    have s3 : Same H2 (upd H2 q (.lst ((dkv (lanesOf ins)).map fun kv => kV kv.1))) := same_upd hq
    generalize upd H2 q (.lst ((dkv (lanesOf ins)).map fun kv => kV kv.1)) = H3 at s3 ⊢
    exists go
    refine k_forT ?_
    exists go
    have hT : rT rI K H3 (.ref sa) [] := ⟨sa, [], rfl, (s2.trans s3).seqT hS, trivial⟩
    refine k_forTRr (r := rI) (K := K) (fun i σ H' => H' = H3 ∧ σ[2]? = some (some (.ref d))) hT ⟨rfl, rfl⟩ (fun i σ H' hi p => by rw [p.1]; exact hT) (fun i p w σ H2 H3 hx hi hP s3 hw => absurd hi (Nat.not_lt_zero _)) fun σ H4 hP => ?_
    obtain ⟨rfl, hd⟩ := hP
    exact ⟨_, hd, h3 u2 H4 d (s2.trans s3) (s3 _ _ d2)⟩
/-! a code -/
def CodeF (I S D : V) : List (Str × V) := [("inputs", I), ("steps", S), ("_lanes", D)]
/-- a code of inputs alone -/
def CodeIn (K : PySem.W.Frag) (H : Hp) (u : Addr) (ins : List (Str × Rgs)) : Prop := ∃ dx I S d, H u = some (.ins (He.ga K "Code") dx (CodeF I S (.ref d))) ∧ rIns K H I ins ∧ rDct (lanesOf ins) H d
def spCodeInit (K : PySem.W.Frag) : Sp := fun vs H Q E => ∃ (x dx : Addr) (I : V) (sa : Addr) (ins : List (Str × Rgs)), vs = [.ref x, I, .ref sa] ∧ H x = some (.ins (He.ga K "Code") dx []) ∧ rL (rPair rS (rL rRg)) K H I ins ∧ H sa = some (.lst []) ∧ Inb ins ∧
  (dueC ins = some true → ∀ d H', SameBut x H H' → H' d = some (.xd [("number", .non)]) → E (.ref (He.ga K "BadCode")) (some d) H') ∧ (dueC ins = some false → ∀ H', SameBut x H H' → E (.ref (He.ga K "TooGreat")) none H') ∧
  (dueC ins = none → ∀ H', SameBut x H H' → CodeIn K H' x ins → Q .non H')
theorem ok_Code___init__ (T : Txt K mg) : FnOk P w K mg base (L2.CX P w) 8 (He.fAd K ("Code", some "__init__")) T.d_Code___init__ ["self", "inputs", "steps"] (spCodeInit K) := by
  refine FunD.ok T.fn_Code___init__ sc_Code___init__ (fun vs H Q E h => ?_) (fun cdv A outer s H vs Q E hr h => ?_)
  · obtain ⟨x, dx, I, sa, ins, rfl, _⟩ := h
    rfl
  · obtain ⟨x, dx, I, sa, ins, rfl, hx, hI, hS, hb, h1, h2, h3⟩ := h
    refine ⟨_, (pss_cons (ps_fld (pv 0) (pe_call (ok__copied T) (hr.mono (by decide)) (by rfl) T.m__copied T.fn__copied.kp T.b__copied .nil pass0 (pa_cons (pv 1) pa_nil)) rfl)
  (pss_cons (ps_fld (pv 0) (pe_call (ok__copied T) (hr.mono (by decide)) (by rfl) T.m__copied T.fn__copied.kp T.b__copied .nil pass0 (pa_cons (pv 2) pa_nil)) rfl)
  (pss_one (ps_fld (pv 0) (pe_call (ok__counted_lanes T) (hr.mono (by decide)) (by rfl) T.m__counted_lanes T.fn__counted_lanes.kp T.b__counted_lanes .nil pxx (pa_cons (pe_fldK (K := K) (pv 0) rfl) (pa_cons (pe_fldK (K := K) (pv 0) rfl) pa_nil))) rfl)))), ?_⟩
    have hl : ins.length ≤ 100000 := by have := hb.1; omega
    try dsimp only
    refine k_sfld ?_
    exists go
    refine ⟨I, encI ins, rfl, encI_in hI, dep_encI hl fun p hp => by have := (hb.2 p hp).2; omega, fun H1 I1 s1 t1 => ?_⟩
    have hI1 : rIns K H1 I1 ins := encI_out t1
    exists go
    refine ⟨x, _, _, _, rfl, s1 _ _ hx, T.cl_Code, T.n_Code_inputs, (by decide), ?_⟩
    have b2 : SameBut x H (upd H1 x (.ins (He.ga K "Code") dx (putF "inputs" I1 []))) := fun b o nb e => by rw [upd_ne nb]; exact s1 _ _ e
    have x2 : (upd H1 x (.ins (He.ga K "Code") dx (putF "inputs" I1 []))) x = some (.ins (He.ga K "Code") dx [("inputs", I1)]) := upd_same
    have hI2 : rIns K (upd H1 x (.ins (He.ga K "Code") dx (putF "inputs" I1 []))) I1 ins := CarI.car (r := rIns) (s1 _ _ hx) SameBut.of_upd hI1
    generalize upd H1 x (.ins (He.ga K "Code") dx (putF "inputs" I1 [])) = H2 at b2 x2 hI2 ⊢
    try dsimp only
    refine k_sfld ?_
    exists go
    have nsx : sa ≠ x := ne_of hS hx (by intro z; cases z)
    refine ⟨.ref sa, .sq [], rfl, ⟨sa, [], rfl, .inl (b2 _ _ nsx (by exact hS)), rfl⟩, ⟨by decide, fun t ht => (by cases ht)⟩, fun H3 S3 s3 t3 => ?_⟩
    obtain ⟨sc, vs, rfl, hsc, e3⟩ := t3
    have e3 : vs = [] := e3
    subst e3
    have hsc : SqT K H3 sc [] := hsc
    exists go
    refine ⟨x, _, _, _, rfl, s3 _ _ x2, T.cl_Code, T.n_Code_steps, (by show 1 < 1000; decide), ?_⟩
    have b4 : SameBut x H (upd H3 x (.ins (He.ga K "Code") dx (putF "steps" (.ref sc) [("inputs", I1)]))) := fun b o nb e => by rw [upd_ne nb]; exact s3 _ _ (b2 _ _ nb e)
    have x4 : (upd H3 x (.ins (He.ga K "Code") dx (putF "steps" (.ref sc) [("inputs", I1)]))) x = some (.ins (He.ga K "Code") dx [("inputs", I1), ("steps", .ref sc)]) := upd_same
    have hI4 : rIns K (upd H3 x (.ins (He.ga K "Code") dx (putF "steps" (.ref sc) [("inputs", I1)]))) I1 ins := CarI.car (r := rIns) (s3 _ _ x2) SameBut.of_upd (carS s3 hI2)
    have hS4 : SqT K (upd H3 x (.ins (He.ga K "Code") dx (putF "steps" (.ref sc) [("inputs", I1)]))) sc [] := si_tup (s3 _ _ x2) SameBut.of_upd hsc
    generalize upd H3 x (.ins (He.ga K "Code") dx (putF "steps" (.ref sc) [("inputs", I1)])) = H4 at b4 x4 hI4 hS4 ⊢
    try dsimp only
    refine k_sfld ?_
    exists go
    refine ⟨x, _, _, _, _, rfl, x4, T.cl_Code, T.n_Code_inputs, rfl, ?_⟩
    exists go
    refine ⟨x, _, _, _, _, rfl, x4, T.cl_Code, T.n_Code_steps, rfl, ?_⟩
    exists go
    refine ⟨I1, sc, ins, rfl, hI4, hS4, hb, fun e d H' s5 e5 => h1 e d H' (fun b o nb g => s5 _ _ (b4 _ _ nb g)) e5, fun e H' s5 => h2 e H' fun b o nb g => s5 _ _ (b4 _ _ nb g), fun e H5 d s5 e5 => ?_⟩
    exists go
    refine ⟨x, _, _, _, rfl, s5 _ _ x4, T.cl_Code, T.n_Code__lanes, (by show 2 < 1000; decide), ?_⟩
    refine h3 e _ (fun b o nb g => by rw [upd_ne nb]; exact s5 _ _ (b4 _ _ nb g)) ⟨dx, I1, .ref sc, d, upd_same, CarI.car (r := rIns) (s5 _ _ x4) SameBut.of_upd (carS s5 hI4), ?_⟩
    have nd : d ≠ x := ne_of e5 (s5 _ _ x4) (by intro z; cases z)
    unfold rDct
    rw [upd_ne nd]
    exact e5
end
end Pl

set_option Elab.async false
set_option linter.all false
/-! the lower edge of points, kept as a stack (head = last), and the slopes at which two points are least -/
namespace Pl
abbrev Pt := Int × Int
def hv (w : Int) (p : Pt) : Int := p.2 + w * p.1
def TurnU (f m l : Pt) : Prop := (m.2 - f.2) * (l.1 - m.1) < (l.2 - m.2) * (m.1 - f.1)
instance : Decidable (TurnU f m l) := by unfold TurnU; infer_instance
def popW (p : Pt) : List Pt → List Pt
  | m :: f :: r => if TurnU f m p then m :: f :: r else popW p (f :: r)
  | s => s
def Conv : List Pt → Prop
  | a :: b :: c :: r => b.1 < a.1 ∧ TurnU c b a ∧ Conv (b :: c :: r)
  | [a, b] => b.1 < a.1
  | _ => True
def MinTwo (w : Int) (xs : List Pt) : Prop := ∃ p ∈ xs, ∃ q ∈ xs, p.1 < q.1 ∧ hv w p = hv w q ∧ ∀ r ∈ xs, hv w p ≤ hv w r
theorem turn_hv (w : Int) (f m l : Pt) : TurnU f m l ↔ (hv w m - hv w f) * (l.1 - m.1) < (hv w l - hv w m) * (m.1 - f.1) := by
  have e1 : (hv w m - hv w f) * (l.1 - m.1) = (m.2 - f.2) * (l.1 - m.1) + w * ((m.1 - f.1) * (l.1 - m.1)) := by unfold hv; grind
  have e2 : (hv w l - hv w m) * (m.1 - f.1) = (l.2 - m.2) * (m.1 - f.1) + w * ((m.1 - f.1) * (l.1 - m.1)) := by unfold hv; grind
  unfold TurnU
  rw [e1, e2]
  constructor <;> intro h <;> omega
theorem MinTwo.same {w : Int} {xs ys : List Pt} (h : MinTwo w xs) (e : ∀ r, r ∈ xs ↔ r ∈ ys) : MinTwo w ys := by
  obtain ⟨p, hp, q, hq, lt, eq, mn⟩ := h
  exact ⟨p, (e p).mp hp, q, (e q).mp hq, lt, eq, fun r hr => mn r ((e r).mpr hr)⟩
/-- a point that is not below the line of two others may go -/
theorem MinTwo.drop {w : Int} {xs ys : List Pt} {f m l : Pt} (h : MinTwo w xs) (hf : f ∈ ys) (hl : l ∈ ys) (h1 : ∀ r ∈ xs, r = m ∨ r ∈ ys) (h2 : ∀ r ∈ ys, r ∈ xs) (hm : f.1 < m.1) (hl' : m.1 < l.1) (nt : ¬ TurnU f m l) : MinTwo w ys := by
  obtain ⟨p, hp, q, hq, lt, eq, mn⟩ := h
  rw [turn_hv w] at nt
  have key : hv w m = hv w p → MinTwo w ys := fun e => by
    have a1 := mn f (h2 f hf)
    have a2 := mn l (h2 l hl)
    have b1 : (hv w m - hv w f) * (l.1 - m.1) ≤ 0 := Int.mul_nonpos_of_nonpos_of_nonneg (by omega) (by omega)
    have b2 : 0 ≤ (hv w l - hv w m) * (m.1 - f.1) := Int.mul_nonneg (by omega) (by omega)
    have c1 : (hv w m - hv w f) * (l.1 - m.1) = 0 := by omega
    have c2 : (hv w l - hv w m) * (m.1 - f.1) = 0 := by omega
    have d1 : hv w m - hv w f = 0 := by
      rcases Int.mul_eq_zero.mp c1 with z | z
      · exact z
      · omega
    have d2 : hv w l - hv w m = 0 := by
      rcases Int.mul_eq_zero.mp c2 with z | z
      · exact z
      · omega
    exact ⟨f, hf, l, hl, by omega, by omega, fun r hr => by have := mn r (h2 r hr); omega⟩
  rcases h1 p hp with rfl | hp'
  · exact key rfl
  rcases h1 q hq with rfl | hq'
  · exact key eq.symm
  exact ⟨p, hp', q, hq', lt, eq, fun r hr => mn r (h2 r hr)⟩
theorem Conv.tail {a : Pt} {r : List Pt} (h : Conv (a :: r)) : Conv r := by
  match r, h with
  | [], _ => trivial
  | [b], _ => trivial
  | b :: c :: r, h => exact h.2.2
theorem Conv.lt {a b : Pt} {r : List Pt} (h : Conv (a :: b :: r)) : b.1 < a.1 := by
  match r, h with
  | [], h => exact h
  | c :: r, h => exact h.1
theorem Conv.lts {a : Pt} : ∀ {r : List Pt}, Conv (a :: r) → ∀ x ∈ r, x.1 < a.1
  | b :: r, h, x, hx => by
    rcases List.mem_cons.mp hx with rfl | hx
    · exact h.lt
    · have := Conv.lts (a := b) h.tail x hx
      have := h.lt
      omega
theorem popW_conv (p : Pt) : ∀ {s : List Pt}, Conv s → Conv (popW p s)
  | [], h => h
  | [_], h => h
  | m :: f :: r, h => by
    unfold popW
    split
    · exact h
    · exact popW_conv p h.tail
theorem popW_sub (p : Pt) : ∀ (s : List Pt), ∀ x ∈ popW p s, x ∈ s
  | [], _, h => h
  | [_], _, h => h
  | m :: f :: r, x, h => by
    unfold popW at h
    split at h
    · exact h
    · exact List.mem_cons_of_mem _ (popW_sub p _ x h)
theorem popW_ne (p : Pt) : ∀ {s : List Pt}, s ≠ [] → popW p s ≠ []
  | [], h => h
  | [_], h => h
  | m :: f :: r, _ => by
    unfold popW
    split
    · exact List.cons_ne_nil _ _
    · exact popW_ne p (List.cons_ne_nil _ _)
theorem push_conv {p : Pt} : ∀ {s : List Pt}, Conv s → (∀ x ∈ s, x.1 < p.1) → Conv (p :: popW p s)
  | [], _, _ => trivial
  | [a], _, h => h a (List.mem_cons_self ..)
  | m :: f :: r, h, hp => by
    unfold popW
    split
    · rename_i t
      exact ⟨hp m (List.mem_cons_self ..), t, h⟩
    · exact push_conv h.tail fun x hx => hp x (List.mem_cons_of_mem _ hx)
theorem push_two {w : Int} {p : Pt} {rest : List Pt} : ∀ {s : List Pt}, Conv s → (∀ x ∈ s, x.1 < p.1) → MinTwo w (s ++ p :: rest) → MinTwo w ((p :: popW p s) ++ rest)
  | [], _, _, h => h
  | [a], _, _, h => h.same fun r => by simp [popW, or_left_comm]
  | m :: f :: r, hc, hp, h => by
    unfold popW
    split
    · exact h.same fun x => by simp [or_left_comm, or_assoc]
    · rename_i nt
      refine push_two hc.tail (fun x hx => hp x (List.mem_cons_of_mem _ hx)) (h.drop (f := f) (m := m) (l := p) ?_ ?_ ?_ ?_ hc.lt (hp m (List.mem_cons_self ..)) nt)
      · exact List.mem_append_left _ (List.mem_cons_self ..)
      · exact List.mem_append_right _ (List.mem_cons_self ..)
      · intro x hx
        rw [List.cons_append] at hx
        exact List.mem_cons.mp hx
      · intro x hx
        rw [List.cons_append]
        exact List.mem_cons_of_mem _ hx
/-- the pairs of neighbours, from the last on -/
def consec : List Pt → List (Pt × Pt)
  | a :: b :: r => (b, a) :: consec (b :: r)
  | _ => []
theorem conv_inc {w : Int} : ∀ {a b : Pt} {r : List Pt}, Conv (a :: b :: r) → hv w a ≤ hv w b → ∀ z ∈ consec (b :: r), hv w z.2 < hv w z.1
  | a, b, [], _, _, _, h => by cases h
  | a, b, c :: r, hc, le, z, hz => by
    have t := (turn_hv w c b a).mp hc.2.1
    have h1 := hc.lt
    have h2 := hc.tail.lt
    have lt : hv w b < hv w c := by
      have b1 : (hv w a - hv w b) * (b.1 - c.1) ≤ 0 := Int.mul_nonpos_of_nonpos_of_nonneg (by omega) (by omega)
      have b2 : (hv w b - hv w c) * (a.1 - b.1) < 0 := by omega
      rcases Int.lt_or_le (hv w b) (hv w c) with g | g
      · exact g
      · have := Int.mul_nonneg (show 0 ≤ hv w b - hv w c by omega) (show 0 ≤ a.1 - b.1 by omega)
        omega
    rw [consec] at hz
    rcases List.mem_cons.mp hz with rfl | hz
    · exact lt
    · exact conv_inc hc.tail (Int.le_of_lt lt) z hz
theorem conv_later {w : Int} : ∀ {a b : Pt} {r : List Pt}, Conv (a :: b :: r) → hv w a ≤ hv w b → ∀ x ∈ r, hv w b < hv w x
  | a, b, [], _, _, _, h => by cases h
  | a, b, c :: r, hc, le, x, hx => by
    have lt : hv w b < hv w c := conv_inc hc le (c, b) (List.mem_cons_self ..)
    rcases List.mem_cons.mp hx with rfl | hx
    · exact lt
    · have := conv_later hc.tail (Int.le_of_lt lt) x hx
      omega
theorem conv_pair {w : Int} : ∀ {s : List Pt}, Conv s → MinTwo w s → ∃ z ∈ consec s, hv w z.1 = hv w z.2
  | [], _, ⟨p, hp, _⟩ => by cases hp
  | [a], _, ⟨p, hp, q, hq, lt, _⟩ => by
    rw [List.mem_singleton.mp hp, List.mem_singleton.mp hq] at lt
    omega
  | a :: b :: r, hc, ⟨p, hp, q, hq, lt, eq, mn⟩ => by
    have nlt := hc.lts
    rcases List.mem_cons.mp hp with rfl | hp'
    · rcases List.mem_cons.mp hq with rfl | hq'
      · omega
      · have := nlt q hq'
        omega
    rcases List.mem_cons.mp hq with rfl | hq'
    · rcases List.mem_cons.mp hp' with rfl | hp''
      · exact ⟨(p, q), List.mem_cons_self .., eq⟩
      · have g := mn b (List.mem_cons_of_mem _ (List.mem_cons_self ..))
        have := conv_later hc (w := w) (by omega) p hp''
        omega
    · obtain ⟨z, hz, e⟩ := conv_pair hc.tail ⟨p, hp', q, hq', lt, eq, fun x hx => mn x (List.mem_cons_of_mem _ hx)⟩
      exact ⟨z, List.mem_cons_of_mem _ hz, e⟩
/-- the width of a pair of neighbours: (earlier, later) -/
def widOf (z : Pt × Pt) : Option Int := if 1 ≤ (z.1.2 - z.2.2) / (z.2.1 - z.1.1) ∧ (z.1.2 - z.2.2) % (z.2.1 - z.1.1) = 0 then some ((z.1.2 - z.2.2) / (z.2.1 - z.1.1)) else none
theorem consec_lt : ∀ {s : List Pt}, Conv s → ∀ z ∈ consec s, z.1.1 < z.2.1
  | [], _, _, h => by cases h
  | [_], _, _, h => by cases h
  | a :: b :: r, hc, z, h => by
    rcases List.mem_cons.mp h with rfl | h
    · exact hc.lt
    · exact consec_lt hc.tail z h
theorem widOf_some {z : Pt × Pt} {w : Int} (lt : z.1.1 < z.2.1) : widOf z = some w ↔ 1 ≤ w ∧ hv w z.1 = hv w z.2 := by
  unfold widOf hv
  have hd : 0 < z.2.1 - z.1.1 := by omega
  have dm := Int.mul_ediv_add_emod (z.1.2 - z.2.2) (z.2.1 - z.1.1)
  constructor
  · intro h
    split at h
    · rename_i g
      cases h
      refine ⟨g.1, ?_⟩
      rw [g.2] at dm
      grind
    · cases h
  · rintro ⟨h1, h2⟩
    have e : z.1.2 - z.2.2 = (z.2.1 - z.1.1) * w := by grind
    have e1 : (z.1.2 - z.2.2) / (z.2.1 - z.1.1) = w := by rw [e]; exact Int.mul_ediv_cancel_left _ (by omega)
    have e2 : (z.1.2 - z.2.2) % (z.2.1 - z.1.1) = 0 := by rw [e]; exact Int.mul_emod_right ..
    rw [if_pos ⟨by omega, e2⟩, e1]
/-- the widths ascend -/
theorem wids_asc : ∀ {s : List Pt}, Conv s → ((consec s).filterMap widOf).Pairwise (· < ·)
  | [], _ => by simp [consec]
  | [_], _ => by simp [consec]
  | a :: b :: r, hc => by
    have ih := wids_asc hc.tail
    rw [consec]
    cases e : widOf (b, a) with
    | none => rw [List.filterMap_cons_none e]; exact ih
    | some w =>
      rw [List.filterMap_cons_some e]
      refine List.pairwise_cons.mpr ⟨fun x hx => ?_, ih⟩
      obtain ⟨z, hz, ez⟩ := List.mem_filterMap.mp hx
      have eq := ((widOf_some hc.lt).mp e).2
      have inc := conv_inc hc (w := w) (show hv w a ≤ hv w b from Int.le_of_eq eq.symm) z hz
      have lt := consec_lt hc.tail z hz
      have ez' := ((widOf_some lt).mp ez).2
      unfold hv at inc ez'
      have h3 : w * (z.2.1 - z.1.1) < x * (z.2.1 - z.1.1) := by grind
      exact Int.lt_of_mul_lt_mul_right h3 (by omega)
theorem wids_mem {s : List Pt} {w : Int} (hc : Conv s) (h1 : 1 ≤ w) (h : MinTwo w s) : w ∈ (consec s).filterMap widOf := by
  obtain ⟨z, hz, e⟩ := conv_pair hc h
  exact List.mem_filterMap.mpr ⟨z, hz, (widOf_some (consec_lt hc z hz)).mpr ⟨h1, e⟩⟩
/-- the least of some -/
theorem least_of (f : Pt → Int) : ∀ {xs : List Pt}, xs ≠ [] → ∃ x ∈ xs, ∀ y ∈ xs, f x ≤ f y
  | [], h => absurd rfl h
  | [a], _ => ⟨a, List.mem_cons_self .., fun y hy => by rw [List.mem_singleton.mp hy]; exact Int.le_refl _⟩
  | a :: b :: r, _ => by
    obtain ⟨x, hx, mn⟩ := least_of f (List.cons_ne_nil b r)
    rcases Int.le_total (f a) (f x) with h | h
    · refine ⟨a, List.mem_cons_self .., fun y hy => ?_⟩
      rcases List.mem_cons.mp hy with rfl | hy
      · exact Int.le_refl _
      · exact Int.le_trans h (mn y hy)
    · refine ⟨x, List.mem_cons_of_mem _ hx, fun y hy => ?_⟩
      rcases List.mem_cons.mp hy with rfl | hy
      · exact h
      · exact mn y hy
/-- strictly ascending lists with the same members are the same -/
theorem asc_eq : ∀ {xs ys : List Int}, xs.Pairwise (· < ·) → ys.Pairwise (· < ·) → (∀ w, w ∈ xs ↔ w ∈ ys) → xs = ys
  | [], [], _, _, _ => rfl
  | [], y :: ys, _, _, h => by have := (h y).mpr (List.mem_cons_self ..); cases this
  | x :: xs, [], _, _, h => by have := (h x).mp (List.mem_cons_self ..); cases this
  | x :: xs, y :: ys, hx, hy, h => by
    obtain ⟨x1, x2⟩ := List.pairwise_cons.mp hx
    obtain ⟨y1, y2⟩ := List.pairwise_cons.mp hy
    have e : x = y := by
      rcases List.mem_cons.mp ((h x).mp (List.mem_cons_self ..)) with e | e
      · exact e
      rcases List.mem_cons.mp ((h y).mpr (List.mem_cons_self ..)) with e' | e'
      · exact e'.symm
      have := y1 x e
      have := x1 y e'
      omega
    subst e
    rw [asc_eq x2 y2 fun w => ?_]
    constructor
    · intro hw
      rcases List.mem_cons.mp ((h w).mp (List.mem_cons_of_mem _ hw)) with e | e
      · have := x1 w hw
        omega
      · exact e
    · intro hw
      rcases List.mem_cons.mp ((h w).mpr (List.mem_cons_of_mem _ hw)) with e | e
      · have := y1 w hw
        omega
      · exact e
end Pl

set_option Elab.async false
set_option linter.all false
set_option maxRecDepth 100000
/-! how often 2 divides; the widths at which a row is 0 -/
namespace Pl
open PySem PySem.Spec
theorem and_pred (v k : Nat) : (2 ^ v * (2 * k + 1)) &&& (2 ^ v * (2 * k + 1) - 1) = 2 ^ v * (2 * k) := by
  induction v with
  | zero =>
    rw [Nat.pow_zero, Nat.one_mul, Nat.one_mul, Nat.add_sub_cancel]
    have h1 := Nat.and_div_two (a := 2 * k + 1) (b := 2 * k)
    have h2 : ((2 * k + 1) &&& (2 * k)) % 2 = 0 := by
      have := (Nat.and_mod_two_eq_one (a := 2 * k + 1) (b := 2 * k))
      rcases Nat.mod_two_eq_zero_or_one ((2 * k + 1) &&& (2 * k)) with z | z
      · exact z
      · have := this.mp z
        omega
    rw [show (2 * k + 1) / 2 = k by omega, show 2 * k / 2 = k by omega, Nat.and_self] at h1
    omega
  | succ v ih =>
    have hp : 0 < 2 ^ v * (2 * k + 1) := Nat.mul_pos (Nat.two_pow_pos v) (by omega)
    generalize hm : 2 ^ v * (2 * k + 1) = m at *
    have e : 2 ^ (v + 1) * (2 * k + 1) = 2 * m := by rw [Nat.pow_succ, ← hm]; grind
    rw [e, show 2 ^ (v + 1) * (2 * k) = 2 * (2 ^ v * (2 * k)) by rw [Nat.pow_succ]; grind, ← ih]
    have h1 := Nat.and_div_two (a := 2 * m) (b := 2 * m - 1)
    have h2 : ((2 * m) &&& (2 * m - 1)) % 2 = 0 := by
      have := (Nat.and_mod_two_eq_one (a := 2 * m) (b := 2 * m - 1))
      rcases Nat.mod_two_eq_zero_or_one ((2 * m) &&& (2 * m - 1)) with z | z
      · exact z
      · have := this.mp z
        omega
    rw [show 2 * m / 2 = m by omega, show (2 * m - 1) / 2 = m - 1 by omega] at h1
    omega
theorem two_parts : ∀ n : Nat, 0 < n → ∃ v k : Nat, n = 2 ^ v * (2 * k + 1) := by
  intro n
  induction n using Nat.strongRecOn with
  | ind n ih =>
    intro h
    rcases Nat.mod_two_eq_zero_or_one n with z | z
    · obtain ⟨v, k, e⟩ := ih (n / 2) (by omega) (by omega)
      refine ⟨v + 1, k, ?_⟩
      have : n = 2 * (n / 2) := by omega
      rw [this, e, Nat.pow_succ]
      grind
    · exact ⟨0, n / 2, by omega⟩
theorem band_neg (e : Int) (h : e ≠ 0) : Builtin.bitAnd e (-e) = ((e.natAbs - (e.natAbs &&& (e.natAbs - 1)) : Nat) : Int) := by
  have hle : e.natAbs &&& (e.natAbs - 1) ≤ e.natAbs := Nat.and_le_left
  have bn : ∀ x : Int, Builtin.bitNot x = -x - 1 := fun _ => rfl
  unfold Builtin.bitAnd
  rcases Int.lt_or_le e 0 with g | g
  · rw [decide_eq_false (by omega : ¬ 0 ≤ e), decide_eq_true (by omega : 0 ≤ -e)]
    show -e - (((-e).toNat &&& (Builtin.bitNot e).toNat : Nat) : Int) = _
    rw [bn, show (-e).toNat = e.natAbs by omega, show (-e - 1).toNat = e.natAbs - 1 by omega]
    omega
  · rw [decide_eq_true g, decide_eq_false (by omega : ¬ 0 ≤ -e)]
    show e - ((e.toNat &&& (Builtin.bitNot (-e)).toNat : Nat) : Int) = _
    rw [bn, show e.toNat = e.natAbs by omega, show (- -e - 1).toNat = e.natAbs - 1 by omega]
    omega
/-- how often 2 divides -/
def tw (e : Int) : Int := (Builtin.Int.intBits (Builtin.bitAnd e (-e)) : Nat) - 1
theorem tw_spec {e : Int} (h : e ≠ 0) : ∃ (v : Nat) (k : Int), tw e = v ∧ e = 2 ^ v * (2 * k + 1) := by
  obtain ⟨v, k, hn⟩ := two_parts e.natAbs (by omega)
  have hb : Builtin.bitAnd e (-e) = ((2 ^ v : Nat) : Int) := by
    rw [band_neg e h]
    have := and_pred v k
    rw [← hn] at this
    rw [this]
    have h2 : e.natAbs = 2 ^ v * (2 * k) + 2 ^ v := by rw [hn]; grind
    rw [h2, Nat.add_sub_cancel_left]
  have ht : tw e = (v : Int) := by
    unfold tw Builtin.Int.intBits
    rw [hb]
    have hp : 0 < 2 ^ v := Nat.two_pow_pos v
    have hz : ¬ ((((2 ^ v : Nat) : Int) == 0) = true) := fun z => by
      have h1 : ((2 ^ v : Nat) : Int) = 0 := eq_of_beq z
      have h2 : 2 ^ v = 0 := Int.ofNat.inj h1
      exact absurd hp (by rw [h2]; decide)
    rw [if_neg hz, Int.natAbs_natCast, Nat.log2_two_pow]
    omega
  rcases Int.lt_or_le e 0 with g | g
  · refine ⟨v, -((k : Int)) - 1, ht, ?_⟩
    have : e = -((e.natAbs : Nat) : Int) := by omega
    rw [this, hn, Int.natCast_mul, Int.natCast_pow]
    show -(2 ^ v * ((2 * k + 1 : Nat) : Int)) = 2 ^ v * (2 * (-(k : Int) - 1) + 1)
    rw [show ((2 * k + 1 : Nat) : Int) = 2 * (k : Int) + 1 by omega]
    grind
  · refine ⟨v, k, ht, ?_⟩
    have : e = ((e.natAbs : Nat) : Int) := by omega
    rw [this, hn, Int.natCast_mul, Int.natCast_pow]
    show 2 ^ v * ((2 * k + 1 : Nat) : Int) = 2 ^ v * (2 * (k : Int) + 1)
    rw [show ((2 * k + 1 : Nat) : Int) = 2 * (k : Int) + 1 by omega]
def ptsOf : Nat → List Int → List Pt
  | _, [] => []
  | k, x :: xs => if x = 0 then ptsOf (k + 1) xs else ((k : Int), tw x) :: ptsOf (k + 1) xs
theorem ptsOf_mem {p : Pt} : ∀ {k : Nat} {xs : List Int}, p ∈ ptsOf k xs ↔ ∃ i, i < xs.length ∧ xs.getD i 0 ≠ 0 ∧ p = (((k + i : Nat) : Int), tw (xs.getD i 0))
  | k, [] => by simp [ptsOf]
  | k, x :: xs => by
    have ih := ptsOf_mem (p := p) (k := k + 1) (xs := xs)
    unfold ptsOf
    constructor
    · intro h
      split at h
      · obtain ⟨i, h1, h2, h3⟩ := ih.mp h
        exact ⟨i + 1, by rw [List.length_cons]; omega, by rw [List.getD_cons_succ]; exact h2, by rw [List.getD_cons_succ, h3]; congr 1; omega⟩
      · rename_i ne
        rcases List.mem_cons.mp h with rfl | h
        · exact ⟨0, by rw [List.length_cons]; omega, ne, rfl⟩
        · obtain ⟨i, h1, h2, h3⟩ := ih.mp h
          exact ⟨i + 1, by rw [List.length_cons]; omega, by rw [List.getD_cons_succ]; exact h2, by rw [List.getD_cons_succ, h3]; congr 1; omega⟩
    · rintro ⟨i, h1, h2, h3⟩
      cases i with
      | zero =>
        rw [List.getD_cons_zero] at h2 h3
        rw [if_neg h2, h3]
        exact List.mem_cons_self ..
      | succ i =>
        rw [List.getD_cons_succ] at h2 h3
        have := ih.mpr ⟨i, by rw [List.length_cons] at h1; omega, h2, by rw [h3]; congr 1; omega⟩
        split
        · exact this
        · exact List.mem_cons_of_mem _ this
theorem dvd_val {m : Int} {w : Nat} : ∀ {xs : List Int} {c : Int}, (∀ i, m ∣ c * (2 ^ (w * i) * xs.getD i 0)) → m ∣ c * val xs w
  | [], c, _ => by
    show m ∣ c * 0
    rw [Int.mul_zero]
    exact Int.dvd_zero m
  | x :: xs, c, h => by
    have h0 := h 0
    rw [Nat.mul_zero, Int.pow_zero, Int.one_mul, List.getD_cons_zero] at h0
    have h1 := dvd_val (m := m) (w := w) (xs := xs) (c := c * 2 ^ w) fun i => by
      have := h (i + 1)
      rw [List.getD_cons_succ, Nat.mul_succ, Int.pow_add] at this
      have e : c * 2 ^ w * (2 ^ (w * i) * xs.getD i 0) = c * (2 ^ (w * i) * 2 ^ w * xs.getD i 0) := by grind
      rw [e]
      exact this
    show m ∣ c * (x + 2 ^ w * val xs w)
    rw [Int.mul_add]
    refine Int.dvd_add h0 ?_
    rw [← Int.mul_assoc]
    exact h1
theorem val_set0 (w : Nat) : ∀ (xs : List Int) (i : Nat), val xs w = val (xs.set i 0) w + 2 ^ (w * i) * xs.getD i 0
  | [], i => by
    show (0 : Int) = 0 + 2 ^ (w * i) * 0
    omega
  | x :: xs, 0 => by
    rw [List.set_cons_zero, List.getD_cons_zero, Nat.mul_zero, Int.pow_zero]
    show x + 2 ^ w * val xs w = 0 + 2 ^ w * val xs w + 1 * x
    omega
  | x :: xs, i + 1 => by
    rw [List.set_cons_succ, List.getD_cons_succ]
    show x + 2 ^ w * val xs w = x + 2 ^ w * val (xs.set i 0) w + 2 ^ (w * (i + 1)) * xs.getD i 0
    rw [val_set0 w xs i, Nat.mul_succ, Int.pow_add]
    grind
/-- at a width at which the number is 0, two lanes share the least power of 2 -/
theorem two_least {xs : List Int} {w : Nat} (h0 : val xs w = 0) {j : Nat} (hj : xs.getD j 0 ≠ 0) : MinTwo w (ptsOf 0 xs) := by
  have jl : j < xs.length := by
    rcases Nat.lt_or_ge j xs.length with h | h
    · exact h
    · exact absurd (by rw [List.getD_eq_getElem?_getD, List.getElem?_eq_none h]; rfl) hj
  have hne : ptsOf 0 xs ≠ [] := fun z => by
    have := ptsOf_mem (k := 0) |>.mpr ⟨j, jl, hj, rfl⟩
    rw [z] at this
    cases this
  obtain ⟨p, hp, mn⟩ := least_of (hv w) hne
  obtain ⟨i, il, ni, rfl⟩ := ptsOf_mem.mp hp
  by_cases g : ∃ q ∈ ptsOf 0 xs, q.1 ≠ ((0 + i : Nat) : Int) ∧ hv w q = hv w (((0 + i : Nat) : Int), tw (xs.getD i 0))
  · obtain ⟨q, hq, ne, e⟩ := g
    rcases Int.lt_or_gt_of_ne ne with l | l
    · exact ⟨q, hq, _, hp, l, e, fun r hr => by rw [e]; exact mn r hr⟩
    · exact ⟨_, hp, q, hq, l, e.symm, mn⟩
  · exfalso
    obtain ⟨v, k, hv', he⟩ := tw_spec ni
    have hd : (2 : Int) ^ (v + w * i + 1) ∣ 1 * val (xs.set i 0) w := by
      refine dvd_val fun a => ?_
      rw [Int.one_mul]
      by_cases ea : a = i
      · subst ea
        rw [show (xs.set a 0).getD a 0 = 0 by rw [List.getD_eq_getElem?_getD, List.getElem?_set_self il]; rfl, Int.mul_zero]
        exact Int.dvd_zero _
      rw [show (xs.set i 0).getD a 0 = xs.getD a 0 by rw [List.getD_eq_getElem?_getD, List.getElem?_set_ne (fun z => ea z.symm), List.getD_eq_getElem?_getD]]
      by_cases na : xs.getD a 0 = 0
      · rw [na, Int.mul_zero]
        exact Int.dvd_zero _
      have al : a < xs.length := by
        rcases Nat.lt_or_ge a xs.length with h | h
        · exact h
        · exact absurd (by rw [List.getD_eq_getElem?_getD, List.getElem?_eq_none h]; rfl) na
      have hq := ptsOf_mem (k := 0) |>.mpr ⟨a, al, na, rfl⟩
      obtain ⟨v', k', hv'', he'⟩ := tw_spec na
      have m1 := mn _ hq
      have m2 : ¬ hv w (((0 + a : Nat) : Int), tw (xs.getD a 0)) = hv w (((0 + i : Nat) : Int), tw (xs.getD i 0)) := fun z => g ⟨_, hq, by show ((0 + a : Nat) : Int) ≠ _; omega, z⟩
      unfold hv at m1 m2
      dsimp only at m1 m2
      rw [hv', hv''] at m1 m2
      have m3 : v + w * i + 1 ≤ v' + w * a := by
        have e1 : ((w * i : Nat) : Int) = (w : Int) * ((0 + i : Nat) : Int) := by rw [Nat.zero_add, Int.natCast_mul]
        have e2 : ((w * a : Nat) : Int) = (w : Int) * ((0 + a : Nat) : Int) := by rw [Nat.zero_add, Int.natCast_mul]
        omega
      rw [he', ← Int.mul_assoc, ← Int.pow_add]
      exact Int.dvd_mul_of_dvd_left ⟨2 ^ (w * a + v' - (v + w * i + 1)), by rw [← Int.pow_add, show v + w * i + 1 + (w * a + v' - (v + w * i + 1)) = w * a + v' by omega]⟩
    rw [Int.one_mul] at hd
    have e0 := val_set0 w xs i
    rw [h0] at e0
    have hd2 : (2 : Int) ^ (v + w * i + 1) ∣ 2 ^ (w * i) * xs.getD i 0 := by
      obtain ⟨c, hc⟩ := hd
      exact ⟨-c, by rw [Int.mul_neg]; omega⟩
    rw [he, ← Int.mul_assoc, ← Int.pow_add, show w * i + v = v + w * i by omega, Int.pow_succ] at hd2
    have := Int.dvd_of_mul_dvd_mul_left (by exact Int.pow_ne_zero (by decide)) hd2
    omega
end Pl

set_option Elab.async false
set_option linter.all false
set_option maxRecDepth 100000
/-! a list as a stack: pop, [-1], [-2]; pairs of pairs -/
namespace Pl
open PySem PySem.Spec PyProof.Rows L2 RZ
def rPopN : V → List V → Hp → VK → Prop := fun x vs H Q => ∃ l xs y, x = .ref l ∧ vs = [] ∧ H l = some (.lst (xs ++ [y])) ∧ ∀ H', SameBut l H H' → H' l = some (.lst xs) → Q y H'
theorem mt_popN {X : Cx} : MtR X "list.pop" rPopN := fun pins s σ H x vs v us Q I r1 r2 ⟨l, xs, y, e1, e2, h1, q⟩ => mt_pop pins s σ H x vs v us Q I r1 r2 ⟨l, xs ++ [y], y, e1, e2, h1, by
  rw [List.length_append, List.getElem?_append_right (by simp)]
  simp, by
  rw [List.dropLast_concat]
  exact q _ .of_upd upd_same⟩
section
variable {α β γ δ : Type} {r : Rel α} {s : Rel β} {t : Rel γ} {u : Rel δ} {K : PySem.W.Frag} {H : Hp} {Q : VK} {σ : L2.St}
theorem k_popS {to : TE} (q : to σ H fun x H1 => tyV K "list" x H1 ∧ rPopN x [] H1 Q) : tBM0 K "list" rPopN to σ H Q := q
theorem AllR.snoc_inv : ∀ {vs : List V} {xs : List α} {x : α}, AllR r K H vs (xs ++ [x]) → ∃ ws w, vs = ws ++ [w] ∧ AllR r K H ws xs ∧ r K H w x
  | [v], [], x, h => ⟨[], v, rfl, trivial, h.1⟩
  | v :: vs, y :: xs, x, h => by
    obtain ⟨ws, w, e, h1, h2⟩ := AllR.snoc_inv (vs := vs) (xs := xs) h.2
    exact ⟨v :: ws, w, by rw [e]; rfl, ⟨h.1, h1⟩, h2⟩
  | [], [], x, h => h.elim
  | [], _ :: _, _, h => h.elim
  | _ :: _ :: _, [], _, h => h.2.elim
theorem k_popR [CarB r] {l : Addr} {xs : List α} {x : α} (h : rL r K H (.ref l) (xs ++ [x])) (q : ∀ H' w, SameBut l H H' → rL r K H' (.ref l) xs → Q w H') : rPopN (.ref l) [] H Q := by
  obtain ⟨a, vs, e, e1, e2⟩ := h
  cases e
  obtain ⟨ws, w, rfl, h1, h2⟩ := e2.snoc_inv
  exact ⟨l, ws, w, rfl, rfl, e1, fun H' b e' => q H' w b ⟨l, ws, rfl, e', h1.carB e1 b⟩⟩
theorem k_ixL1 {v : V} {xs : List α} {x : α} (h : rL r K H v (xs ++ [x])) (q : ∀ w, r K H w x → Q w H) : rIxL K v (.int (-1)) H Q := by
  obtain ⟨a, vs, rfl, e1, e2⟩ := h
  obtain ⟨ws, w, rfl, h1, h2⟩ := e2.snoc_inv
  exact ⟨a, _, _, w, rfl, rfl, SqL.of e1, atI_last ws w, q w h2⟩
theorem atI_last2 {α : Type} (xs : List α) (v w : α) : atI (xs ++ [v, w]) (-2) = some v := by
  have hl : (xs ++ [v, w]).length = xs.length + 2 := by simp
  have e : ixN (xs ++ [v, w]).length (-2) = some xs.length := by
    unfold ixN
    rw [hl, if_neg (by decide), if_pos (by omega)]
    congr 1
    omega
  unfold atI
  rw [e]
  show (xs ++ [v, w])[xs.length]? = some v
  rw [List.getElem?_append_right (Nat.le_refl _), Nat.sub_self]
  rfl
theorem k_ixL2 {v : V} {xs : List α} {x y : α} (h : rL r K H v (xs ++ [x, y])) (q : ∀ w, r K H w x → Q w H) : rIxL K v (.int (-2)) H Q := by
  obtain ⟨a, vs, rfl, e1, e2⟩ := h
  obtain ⟨ws, w, rfl, h1, h2⟩ := (show AllR r K H vs ((xs ++ [x]) ++ [y]) by rw [List.append_assoc]; exact e2).snoc_inv
  obtain ⟨us, z, rfl, h3, h4⟩ := h1.snoc_inv
  exact ⟨a, _, _, z, rfl, rfl, SqL.of e1, by rw [List.append_assoc]; exact atI_last2 us z w, q z h4⟩
theorem k_forSq {te : TE} {g : TG} {tb : TS} {D : Ends} (q : te σ H fun x H1 => ∃ b a xs, x = .ref a ∧ SqB K b H1 a xs ∧ ForTail (ItQ K b a) g tb D σ H1) : tFor (iSqB K te) g tb D σ H := q
theorem k_forQR [Car Same r] {v : V} {xs : List α} {g : TG} {tb : TS} {D : Ends} (Pv : Nat → L2.St → Hp → Prop) (h : rQ r K H v xs) (h0 : Pv 0 σ H) (hG : ∀ i σ H', i ≤ xs.length → Pv i σ H' → ∀ b a, v = .ref a → SqR b r K H a xs → SqR b r K H' a xs)
    (hs : ∀ i x w σ H H2, xs[i]? = some x → i < xs.length → Pv i σ H → Same H H2 → r K H2 w x → g w σ H2 fun σ2 H3 => tb { D with nx := Pv (i + 1), ct := Pv (i + 1), bk := D.nx } σ2 H3)
    (hd : ∀ σ H, Pv xs.length σ H → D.nx σ H) : ∃ b a ys, v = .ref a ∧ SqB K b H a ys ∧ ForTail (ItQ K b a) g tb D σ H := by
  obtain ⟨a, rfl⟩ := h.ref
  obtain ⟨b, hb⟩ := h.sqr
  obtain ⟨ys, h1, _⟩ := id hb
  exact ⟨b, a, ys, rfl, h1, forR walkR_Q Pv h0 (fun i σ H' hi p => hG i σ H' hi p b a rfl hb) hs hd⟩
theorem k_forZR [Car Same r] [Car Same s] {v w : V} {xs : List α} {ys : List β} {g : TG} {tb : TS} {D : Ends} (Pv : Nat → L2.St → Hp → Prop) (h : rL r K H v xs) (h' : rL s K H w ys) (h0 : Pv 0 σ H) (hG : ∀ i σ H', i ≤ (xs.zip ys).length → Pv i σ H' → rL r K H' v xs ∧ rL s K H' w ys)
    (hs : ∀ i x u σ H H2, (xs.zip ys)[i]? = some x → i < (xs.zip ys).length → Pv i σ H → Same H H2 → rPair r s K H2 u x → g u σ H2 fun σ2 H3 => tb { D with nx := Pv (i + 1), ct := Pv (i + 1), bk := D.nx } σ2 H3)
    (hd : ∀ σ H, Pv (xs.zip ys).length σ H → D.nx σ H) : ∃ b1 b2 a1 a2 us ws, [v, w] = [.ref a1, .ref a2] ∧ SqB K b1 H a1 us ∧ SqB K b2 H a2 ws ∧ ForTail (IzB K b1 b2 a1 a2) g tb D σ H := by
  obtain ⟨a, rfl⟩ := h.ref
  obtain ⟨a', rfl⟩ := h'.ref
  obtain ⟨us, h1, _⟩ := h.sqr
  obtain ⟨ws, h2, _⟩ := h'.sqr
  rw [List.length_zip] at hG hs hd
  exact ⟨false, false, a, a', us, ws, rfl, h1, h2, forR walkR_zip Pv h0 (fun i σ H' hi p => ⟨(hG i σ H' hi p).1.sqr, (hG i σ H' hi p).2.sqr⟩) hs hd⟩
/-- the walked list or tuple stands since H0 -/
theorem k_forERS [Car Same r] {v : V} {xs : List α} {g : TG} {tb : TS} {D : Ends} {H0 : Hp} (Pv : Nat → L2.St → Hp → Prop) (h : rQ r K H0 v xs) (e0 : Same H0 H) (h0 : Pv 0 σ H) (hG : ∀ i σ H', i ≤ xs.length → Pv i σ H' → Same H0 H')
    (hs : ∀ i x w σ H H2, (enl 0 xs)[i]? = some x → i < xs.length → Pv i σ H → Same H H2 → rPair rI r K H2 w x → g w σ H2 fun σ2 H3 => tb { D with nx := Pv (i + 1), ct := Pv (i + 1), bk := D.nx } σ2 H3)
    (hd : ∀ σ H, Pv xs.length σ H → D.nx σ H) : ∃ b a ys, [v] = [.ref a] ∧ SqB K b H a ys ∧ ForTail (IeB K b a) g tb D σ H := by
  obtain ⟨a, rfl⟩ := h.ref
  obtain ⟨b, hb⟩ := h.sqr
  obtain ⟨ys, h1, _⟩ := id (hb.car e0)
  exact ⟨b, a, ys, rfl, h1, forR walkR_en Pv h0 (fun i σ H' hi p => hb.car (hG i σ H' hi p)) hs hd⟩
theorem rL_butS [CarB r] {H' : Hp} {a l : Addr} {xs : List α} {ys : List V} (h : rL r K H (.ref a) xs) (e : H l = some (.lst ys)) (b : SameBut l H H') (n : a ≠ l) : rL r K H' (.ref a) xs := by
  obtain ⟨_, us, e0, eu, hus⟩ := h
  cases e0
  exact ⟨a, us, rfl, b _ _ n eu, hus.carB e b⟩
theorem k_appB [CarB r] {l : Addr} {xs : List α} {w : V} {x : α} (h : rL r K H (.ref l) xs) (hw : r K H w x) (hl : xs.length ≤ 1000000) (q : ∀ H' ys, H l = some (.lst ys) → SameBut l H H' → rL r K H' (.ref l) (xs ++ [x]) → Q .non H') : rAppendN (.ref l) [w] H Q := by
  obtain ⟨a, vs, e, e1, e2⟩ := h
  cases e
  exact ⟨l, vs, w, rfl, rfl, e1, len_big (by rw [e2.length]; exact hl), fun H' b e' => q H' _ e1 b ⟨l, _, rfl, e', (e2.carB e1 b).snoc (CarB.car e1 b hw)⟩⟩
theorem cutA_init (xs : List α) : cutA xs none (some (-1)) = xs.dropLast := by
  unfold cutA
  have e : HT.sIx xs.length xs.length (some (-1)) = xs.length - 1 := by
    show (if (-1 : Int) < 0 then (-1 + (xs.length : Int)).toNat else min (-1 : Int).toNat xs.length) = _
    rw [if_pos (by decide)]
    omega
  rw [e, HT.sIx_none, List.drop_zero, Nat.sub_zero, List.dropLast_eq_take]
/-- (a, b), (c, d) -/
theorem g_ppR {i j k l : Nat} {v : V} {p : (α × β) × (γ × δ)} {N : L2.St → Hp → Prop} (h : rPair (rPair r s) (rPair t u) K H v p) (q : ∀ a b c d, r K H a p.1.1 → s K H b p.1.2 → t K H c p.2.1 → u K H d p.2.2 → N ((((σ.set i (some a)).set j (some b)).set k (some c)).set l (some d)) H) :
    gTup K 2 (gCons (gTup K 2 (gCons (gName i) (gCons (gName j) gNil))) (gCons (gTup K 2 (gCons (gName k) (gCons (gName l) gNil))) gNil)) v σ H N := by
  obtain ⟨T, a, b, rfl, h1, h2, h3⟩ := h
  refine ⟨T, _, rfl, h1, rfl, ?_⟩
  refine ⟨_, _, rfl, g_pairR h2 fun x y hx hy => ?_⟩
  refine ⟨_, _, rfl, g_pairR h3 fun z w hz hw => ?_⟩
  exact ⟨rfl, q x y z w hx hy hz hw⟩
end
theorem pg_pp {X : Cx} {K : PySem.W.Frag} {i j k l : Nat} {x y z u : Str} {p1 p2 p3 p4 p5 p6 pos : Pos} {kk k2 k3 : Nat} (hc : X.calm = true) (hN : X.N.Nodup) (hi : X.N[i]? = some x) (hj : X.N[j]? = some y) (hk : X.N[k]? = some z) (hl : X.N[l]? = some u) (hx : Loc X.env.scope x) (hy : Loc X.env.scope y) (hz : Loc X.env.scope z) (hu : Loc X.env.scope u)
    (hf : X.fn x = true ∨ X.env.scope.names.lookup x = some .local := by first | exact .inl rfl | exact .inr rfl | assumption) (hf2 : X.fn y = true ∨ X.env.scope.names.lookup y = some .local := by first | exact .inl rfl | exact .inr rfl | assumption) (hf3 : X.fn z = true ∨ X.env.scope.names.lookup z = some .local := by first | exact .inl rfl | exact .inr rfl | assumption) (hf4 : X.fn u = true ∨ X.env.scope.names.lookup u = some .local := by first | exact .inl rfl | exact .inr rfl | assumption) (hK : X.K = K := by rfl) :
    PG X (.Tuple [.Tuple [.Name x p1, .Name y p2] k2 p5, .Tuple [.Name z p3, .Name u p4] k3 p6] kk pos) (gTup K 2 (gCons (gTup K 2 (gCons (gName i) (gCons (gName j) gNil))) (gCons (gTup K 2 (gCons (gName k) (gCons (gName l) gNil))) gNil))) :=
  hK ▸ pg_tup hc (pgs_cons (pg_tup hc (pgs_cons (pg_name hN hi hx hf) (pgs_cons (pg_name hN hj hy hf2) pgs_nil))) (pgs_cons (pg_tup hc (pgs_cons (pg_name hN hk hz hf3) (pgs_cons (pg_name hN hl hu hf4) pgs_nil))) pgs_nil))
section
variable {α β : Type} {s : Rel β} {K : PySem.W.Frag} {H : Hp} {Q : VK} {σ : L2.St} {g : TG} {tt : TT} {te : TE} {vs : List Nat}
/-- [e for k in range(i, j) if ..] -/
theorem k_lcFR2 [Car Same s] [CarB s] {i j : Int} (f : Int → Option β) (h0 : -(2 ^ 61) ≤ i ∧ i < 2 ^ 61 ∧ -(2 ^ 61) ≤ j ∧ j < 2 ^ 61) (hm : j - i ≤ 100000)
    (hs : ∀ x H2 X Z, i ≤ x → x < j → Same H H2 → (∀ H3 u y, Same H2 H3 → s K H3 u y → f x = some y → X u H3) → (∀ H3, Same H2 H3 → f x = none → Z H3) → LcTurn g tt te vs σ (.int x) H2 X Z)
    (q : ∀ H' D, Same H H' → H D = none → rL s K H' (.ref D) ((upto i (j - 1)).filterMap f) → Q (.ref D) H') : ∃ i' j' : Int, [V.int i, V.int j] = [.int i', .int j'] ∧ (-(2 ^ 62) ≤ i' ∧ i' < 2 ^ 62 ∧ -(2 ^ 62) ≤ j' ∧ j' < 2 ^ 62) ∧ LcTail (Itr i' (j' - i').toNat) g tt te vs σ Q H := by
  refine ⟨i, j, rfl, by omega, lcS (r := rI) (s := s) (K := K) walkR_rg f (by rw [List.length_map, List.length_range]) (by omega) (fun _ _ => trivial) (fun x w H2 X Z hx hr e hX hZ => ?_) fun H' D e hD h => q H' D e hD ?_⟩
  · obtain ⟨k, hk, rfl⟩ := List.mem_map.mp hx
    rw [show w = .int _ from hr]
    have := List.mem_range.mp hk
    exact hs _ H2 X Z (by omega) (by omega) e hX hZ
  · unfold upto
    rw [show j - 1 + 1 - i = j - i by omega]
    exact h
end
/-! the edge of a row -/
def hull (ps : List Pt) : List Pt := ps.foldl (fun s p => p :: popW p s) []
def pt1 (k : Nat) (x : Int) : List Pt := if x = 0 then [] else [((k : Int), tw x)]
theorem ptsOf_snoc : ∀ (k : Nat) (xs : List Int) (x : Int), ptsOf k (xs ++ [x]) = ptsOf k xs ++ pt1 (k + xs.length) x
  | k, [], x => by
    show (if x = 0 then ptsOf (k + 1) [] else _ :: ptsOf (k + 1) []) = pt1 k x
    rfl
  | k, y :: xs, x => by
    rw [List.cons_append]
    unfold ptsOf
    rw [ptsOf_snoc (k + 1) xs x, List.length_cons, show k + 1 + xs.length = k + (xs.length + 1) by omega]
    split <;> rfl
theorem hull_snoc (ps : List Pt) (p : Pt) : hull (ps ++ [p]) = p :: popW p (hull ps) := by
  unfold hull
  rw [List.foldl_append]
  rfl
theorem hull_sub : ∀ (s ps : List Pt), ∀ x ∈ ps.foldl (fun s p => p :: popW p s) s, x ∈ s ∨ x ∈ ps
  | s, [], x, h => .inl h
  | s, p :: ps, x, h => by
    rcases hull_sub _ ps x h with h | h
    · rcases List.mem_cons.mp h with rfl | h
      · exact .inr (List.mem_cons_self ..)
      · exact .inl (popW_sub p s x h)
    · exact .inr (List.mem_cons_of_mem _ h)
theorem hull_go {w : Int} : ∀ (s ps : List Pt), Conv s → (∀ x ∈ s, ∀ y ∈ ps, x.1 < y.1) → ps.Pairwise (fun a b => a.1 < b.1) → MinTwo w (s ++ ps) → Conv (ps.foldl (fun s p => p :: popW p s) s) ∧ MinTwo w (ps.foldl (fun s p => p :: popW p s) s)
  | s, [], hc, _, _, h => ⟨hc, by rw [List.append_nil] at h; exact h⟩
  | s, p :: ps, hc, hl, hp, h => by
    obtain ⟨p1, p2⟩ := List.pairwise_cons.mp hp
    refine hull_go (p :: popW p s) ps (push_conv hc fun x hx => hl x hx p (List.mem_cons_self ..)) (fun x hx y hy => ?_) p2 (push_two hc (fun x hx => hl x hx p (List.mem_cons_self ..)) h)
    rcases List.mem_cons.mp hx with rfl | hx
    · exact p1 y hy
    · exact hl x (popW_sub p s x hx) y (List.mem_cons_of_mem _ hy)
theorem hull_conv : ∀ (s ps : List Pt), Conv s → (∀ x ∈ s, ∀ y ∈ ps, x.1 < y.1) → ps.Pairwise (fun a b => a.1 < b.1) → Conv (ps.foldl (fun s p => p :: popW p s) s)
  | s, [], hc, _, _ => hc
  | s, p :: ps, hc, hl, hp => by
    obtain ⟨p1, p2⟩ := List.pairwise_cons.mp hp
    refine hull_conv (p :: popW p s) ps (push_conv hc fun x hx => hl x hx p (List.mem_cons_self ..)) (fun x hx y hy => ?_) p2
    rcases List.mem_cons.mp hx with rfl | hx
    · exact p1 y hy
    · exact hl x (popW_sub p s x hx) y (List.mem_cons_of_mem _ hy)
theorem ptsOf_ge : ∀ (k : Nat) (xs : List Int), ∀ p ∈ ptsOf k xs, (k : Int) ≤ p.1 := fun k xs p hp => by
  obtain ⟨i, _, _, rfl⟩ := ptsOf_mem.mp hp
  show (k : Int) ≤ ((k + i : Nat) : Int)
  omega
theorem ptsOf_asc : ∀ (k : Nat) (xs : List Int), (ptsOf k xs).Pairwise (fun a b => a.1 < b.1)
  | k, [] => List.Pairwise.nil
  | k, x :: xs => by
    unfold ptsOf
    split
    · exact ptsOf_asc (k + 1) xs
    · refine List.pairwise_cons.mpr ⟨fun p hp => ?_, ptsOf_asc (k + 1) xs⟩
      have := ptsOf_ge (k + 1) xs p hp
      show (k : Int) < p.1
      omega
def widsOf (es : List Int) : List Int := (consec (hull (ptsOf 0 es))).filterMap widOf
theorem widsOf_asc (es : List Int) : (widsOf es).Pairwise (· < ·) := wids_asc (hull_conv [] _ trivial (fun _ h => by cases h) (ptsOf_asc 0 es))
theorem widsOf_mem {es : List Int} {w j : Nat} (hw : 1 ≤ w) (h0 : val es w = 0) (hj : es.getD j 0 ≠ 0) : (w : Int) ∈ widsOf es := by
  obtain ⟨c, m⟩ := hull_go (w := w) [] (ptsOf 0 es) trivial (fun _ h => by cases h) (ptsOf_asc 0 es) (two_least h0 hj)
  exact wids_mem c (by omega) m
/-- the pairs of neighbours, from the first on -/
theorem consec_rev : ∀ s : List Pt, (consec s).reverse = s.reverse.dropLast.zip (s.reverse.drop 1)
  | [] => rfl
  | [_] => rfl
  | a :: b :: r => by
    have ih := consec_rev (b :: r)
    rw [consec, List.reverse_cons, ih, List.reverse_cons (a := a), List.dropLast_concat]
    have hl : (b :: r).reverse.length = r.length + 1 := by simp
    rw [List.drop_append_of_le_length (by rw [hl]; omega)]
    have e : (b :: r).reverse = (b :: r).reverse.dropLast ++ [b] := by rw [List.reverse_cons, List.dropLast_concat]
    conv => rhs; arg 1; rw [e]
    rw [List.zip_append (by rw [List.length_dropLast, List.length_drop])]
    rfl
end Pl

set_option Elab.async false
set_option linter.all false
set_option maxRecDepth 100000
set_option maxHeartbeats 4000000
namespace Pl
open PySem PySem.Spec PyProof.Rows L2 RZ
section
variable {P : Program} {w : World} {K : PySem.W.Frag} {mg : Str → Option Value} {base : Heap} [SupP P]
local macro_rules | `(tactic| exists cgs) => `(tactic| repeat (first | with_reducible apply cg.md | with_reducible apply cg.add | with_reducible apply cg.sub | with_reducible apply cg.mul | with_reducible apply cg.neg | with_reducible exact cg.rf))
local macro_rules | `(tactic| exists cgm) => `(tactic| (apply cg.em; (focus exists cgs); (focus exists cgs); (focus grind)))
local macro_rules | `(tactic| exists hp) => `(tactic| first | assumption | (apply WrapAt.same; (focus assumption); exists hp) | (apply Same.seqT; (focus assumption); exists hp) | (apply Same.seq; (focus assumption); exists hp) | (apply Same.sq; (focus assumption); exists hp) | ((with_reducible apply same_at); (focus assumption); exists hp) | ((with_reducible apply same_trans); (focus assumption); exists hp) | (with_reducible exact Same.refl _))
local macro_rules | `(tactic| exists st) => `(tactic| first | ((with_reducible apply k_var); (focus exact rfl)) | (with_reducible refine k_c ?_) | (with_reducible refine k_op ?_) | (with_reducible refine k_un ?_) | (with_reducible refine k_test ?_) | (with_reducible refine k_tB ?_) | (with_reducible refine k_not ?_) | (with_reducible refine k_or ?_) | (with_reducible refine k_and ?_) | (with_reducible refine k_yes ?_) | (with_reducible refine k_andV ?_) | (with_reducible refine k_orV ?_) | (with_reducible refine k_notV ?_) | (with_reducible refine k_if ?_) | (with_reducible refine k_seq ?_) | (with_reducible refine k_next ?_) | (with_reducible refine k_drop ?_) | (with_reducible refine k_ret ?_) | (with_reducible refine k_retN ?_) | (with_reducible refine k_ifS ?_) | (with_reducible refine k_asg ?_) | (with_reducible refine k_name ?_) | (with_reducible refine k_nil ?_) | (with_reducible refine k_cons ?_) | (with_reducible refine k_call ?_) | (with_reducible refine k_cb ?_) | (with_reducible refine k_lst ?_) | (with_reducible refine k_tup ?_) | (with_reducible refine k_bl ?_) | (with_reducible refine k_i0 ?_) | (with_reducible refine k_u ?_) | (with_reducible refine k_eqI ?_) | (with_reducible refine k_eqB ?_) | (with_reducible refine k_neI ?_) | (with_reducible refine k_ifT ?_) | (with_reducible refine k_ifF ?_) | (with_reducible refine k_ifnT ?_) | (with_reducible refine k_ifnF ?_) | (with_reducible refine k_bl2 ?_) | (with_reducible refine k_ifdR ?_) | (with_reducible refine k_ifndR ?_) | (with_reducible refine k_int ?_) | (with_reducible refine k_ref ?_) | (with_reducible refine k_isB ?_) | (with_reducible refine k_meth ?_) | (with_reducible refine k_fld ?_))
local macro_rules | `(tactic| exists go) => `(tactic| repeat (exists st))
local macro_rules | `(tactic| exists yes) => `(tactic| first | (with_reducible refine k_ifdT (by first | rfl | omega) ?_) | (with_reducible refine k_ifndF (by first | rfl | omega) ?_))
local macro_rules | `(tactic| exists no) => `(tactic| first | (with_reducible refine k_ifdF (by omega) ?_) | (with_reducible refine k_ifndT (by omega) ?_))
local macro_rules | `(tactic| exists st) => `(tactic| first | ((with_reducible apply k_var); (focus exact rfl)) | (with_reducible refine k_c ?_) | (with_reducible refine k_op ?_) | (with_reducible refine k_un ?_) | (with_reducible refine k_test ?_) | (with_reducible refine k_tB ?_) | (with_reducible refine k_not ?_) | (with_reducible refine k_or ?_) | (with_reducible refine k_and ?_) | (with_reducible refine k_yes ?_) | (with_reducible refine k_andV ?_) | (with_reducible refine k_orV ?_) | (with_reducible refine k_notV ?_) | (with_reducible refine k_if ?_) | (with_reducible refine k_seq ?_) | (with_reducible refine k_next ?_) | (with_reducible refine k_drop ?_) | (with_reducible refine k_ret ?_) | (with_reducible refine k_retN ?_) | (with_reducible refine k_ifS ?_) | (with_reducible refine k_asg ?_) | (with_reducible refine k_name ?_) | (with_reducible refine k_nil ?_) | (with_reducible refine k_cons ?_) | (with_reducible refine k_call ?_) | (with_reducible refine k_cb ?_) | (with_reducible refine k_lst ?_) | (with_reducible refine k_tup ?_) | (with_reducible refine k_bl ?_) | (with_reducible refine k_i0 ?_) | (with_reducible refine k_u ?_) | (with_reducible refine k_eqI ?_) | (with_reducible refine k_eqB ?_) | (with_reducible refine k_neI ?_) | (with_reducible refine k_ifT ?_) | (with_reducible refine k_ifF ?_) | (with_reducible refine k_ifnT ?_) | (with_reducible refine k_ifnF ?_) | (with_reducible refine k_bl2 ?_) | (with_reducible refine k_ifdR ?_) | (with_reducible refine k_ifndR ?_) | (with_reducible refine k_int ?_) | (with_reducible refine k_ref ?_) | (with_reducible refine k_isB ?_) | (with_reducible refine k_meth ?_) | (with_reducible refine k_fld ?_) | (with_reducible refine k_callS ?_) | (with_reducible refine k_methS ?_) | (with_reducible refine k_opS ?_) | (with_reducible refine k_smethS ?_) | (with_reducible refine k_atEnd ?_) | (with_reducible refine k_atRt ?_) | (with_reducible refine k_nonR ?_) | (with_reducible refine k_makeS ?_) | (with_reducible refine k_make ?_) | (with_reducible refine k_refnon ?_) | (with_reducible refine k_par ?_) | (with_reducible refine k_par3 ?_) | (with_reducible refine k_two ?_) | (with_reducible refine k_three ?_) | (with_reducible refine k_smeth ?_) | (with_reducible refine k_self ?_) | (with_reducible refine k_neS ?_) | (with_reducible refine k_eqS ?_) | (with_reducible refine k_chain ?_) | ((with_reducible apply k_newT); (focus exact Nat.le_of_ble_eq_true rfl); intro _ _ _ _) | ((with_reducible apply k_newL); (focus exact Nat.le_of_ble_eq_true rfl); intro _ _ _ _ _))
local macro_rules | `(tactic| exists st) => `(tactic| first | (with_reducible refine k_ex1 ?_) | (with_reducible refine k_ex0 ?_) | (with_reducible refine k_lcR1 ?_) | (with_reducible refine k_lcR2 ?_) | (with_reducible refine k_lcL ?_) | (with_reducible refine k_lcT ?_) | (with_reducible refine k_lcQ ?_) | (with_reducible refine k_neB ?_) | (with_reducible refine k_bits ?_) | (with_reducible refine k_prop ?_) | (with_reducible refine k_sl ?_) | (with_reducible refine k_noPart ?_) | (with_reducible refine k_part ?_))
local macro_rules | `(tactic| exists sd) => `(tactic| first | exact ⟨by decide, by decide⟩ | exact Or.inr ⟨by decide, by decide⟩ | exact Or.inl ⟨by decide, by decide⟩ | exact ⟨by decide, by decide, by decide⟩ | exact Or.inl ⟨by omega, by omega⟩ | exact Or.inr ⟨by omega, by omega⟩ | exact ⟨by omega, by omega⟩ | decide | omega)
local macro_rules | `(tactic| exists st) => `(tactic| ((with_reducible apply k_iC); (focus exists sd)))
local macro_rules | `(tactic| exists st) => `(tactic| first | (with_reducible refine k_lrg ?_) | (with_reducible refine k_rg1 ?_) | (with_reducible refine k_append ?_) | (with_reducible refine k_forL ?_) | (with_reducible refine k_forT ?_) | (with_reducible refine k_setOwn ?_) | (with_reducible refine k_gsub ?_) | (with_reducible refine k_forR1 ?_) | (with_reducible refine k_forR2 ?_))
local macro_rules | `(tactic| exists hp) => `(tactic| first | assumption | ((with_reducible apply carS); (focus assumption); exists hp) | ((with_reducible apply carK); (focus assumption); exists hp) | ((with_reducible apply rL_q); exists hp) | ((with_reducible apply rT_q); exists hp))
local macro_rules | `(tactic| exists st) => `(tactic| first | (with_reducible refine k_forEn ?_) | (with_reducible refine k_forEnK ?_) | (with_reducible refine k_forZipQ ?_) | (with_reducible refine k_lcEn ?_) | (with_reducible refine k_lcZipQ ?_))
local macro_rules | `(tactic| exists st) => `(tactic| first | (with_reducible refine k_tupZip ?_))
local macro_rules | `(tactic| exists st) => `(tactic| first | (with_reducible refine k_rawT ?_) | (with_reducible refine k_tJoin ?_) | (with_reducible refine k_lcStr ?_) | (with_reducible refine k_dIn ?_) | (with_reducible refine k_dPut ?_) | (with_reducible refine k_dNew ?_))
local macro_rules | `(tactic| exists hp) => `(tactic| first | assumption | ((with_reducible apply carS); (focus assumption); exists hp) | ((with_reducible apply carM); (focus assumption); exists hp) | ((with_reducible apply rL_q); exists hp) | ((with_reducible apply rT_q); exists hp))
/-! the pen of two, told by what stays -/
def Mp (pen c : Addr) : Addr → Prop := fun b => b = pen ∨ b = c
section
variable {pen c : Addr} {H H' : Hp} {n : Nat}
theorem kx_of (p : PW H pen c n) (k : Kp pen c H H') : Kx (Mp pen c) H H' := fun b o ne e => by
  obtain ⟨zs, i, g1, g2, _⟩ := p
  refine k b o (fun z => ?_) (fun z => ?_) e
  · subst z
    rw [g1] at e
    cases e
    exact ne (.inl rfl) _ rfl
  · subst z
    rw [g2] at e
    cases e
    exact ne (.inr rfl) _ rfl
theorem kx_lst (p : PW H pen c n) {H2 H3 : Hp} {D : Addr} {ws : List V} (hD : H D = none) (k : Kx (Mp pen c) H2 H3) (e : H2 D = some (.lst ws)) : H3 D = some (.lst ws) :=
  k _ _ (fun m => absurd m fun z => z.elim (p.ne hD).1 (p.ne hD).2) e
theorem notM (p : PW H pen c n) {D : Addr} (hD : H D = none) : ¬ Mp pen c D := fun z => z.elim (p.ne hD).1 (p.ne hD).2
theorem PW.butF {H0 : Hp} {D : Addr} {m : Nat} (h0 : PW H0 pen c m) (hD : H0 D = none) (b : SameBut D H H') (h : PW H pen c n) : PW H' pen c n := PW.but h0 hD b h
theorem kx_same {M : Addr → Prop} {H0 : Hp} (k : Kx M H0 H) (s : Same H H') : Kx M H0 H' := Evo.trans (E := Kx M) k (Evo.same s)
theorem kx_tr {M : Addr → Prop} {H0 : Hp} (a : Kx M H0 H) (b : Kx M H H') : Kx M H0 H' := Evo.trans (E := Kx M) a b
theorem kx_refl {M : Addr → Prop} : Kx M H H := Evo.refl (E := Kx M) H
theorem kx_ofS {M : Addr → Prop} (s : Same H H') : Kx M H H' := Evo.same s
theorem kx_butF {M : Addr → Prop} {H0 : Hp} {D : Addr} (a : Kx M H0 H) (hD : H0 D = none) (b : SameBut D H H') : Kx M H0 H' := Evo.but (E := Kx M) a hD b
end
section
variable {α β : Type} {r : Rel α} {s : Rel β} {K : PySem.W.Frag} {H : Hp} {Q : VK} {E : XK} {σ : L2.St} {g : TG} {tt : TT} {te : TE} {vs : List Nat} {J : It} {n : Nat} {G : Hp → Prop} {pen c : Addr}
theorem k_drawX {n : Nat} {m : Int} (p : PW H pen c n) (h1 : n ≤ 1000000000) (h2 : 1 ≤ m) (h3 : m < 2 ^ 200) (q : ∀ H' d, Kx (Mp pen c) H H' → PW H' pen c (n + 1) → 0 ≤ d → d < m → Q (.int d) H') : spDraw ([.ref pen, .int m] ++ []) H Q E :=
  ⟨pen, c, n, m, rfl, p, h1, h2, h3, fun H' d k p' a b => q H' d (kx_of p k) p' a b⟩
/-- [e for x in xs], e draws -/
theorem lcX [Car (Kx (Mp pen c)) s] [Car Same s] [CarB s] {xs : List α} (wk : Walk J n G (YR r K xs)) (n0 st : Nat) (R : Nat → α → β → Prop) (p : PW H pen c n0) (hn : n = xs.length) (hm : n ≤ 100000) (hG : ∀ H', Kx (Mp pen c) H H' → G H')
    (hs : ∀ i x v H2 X Z, xs[i]? = some x → i < n → r K H2 v x → Kx (Mp pen c) H H2 → PW H2 pen c (n0 + st * i) → (∀ H3 w y, Kx (Mp pen c) H2 H3 → PW H3 pen c (n0 + st * (i + 1)) → s K H3 w y → R i x y → X w H3) → LcTurn g tYes te vs σ v H2 X Z)
    (q : ∀ H' D ys, Kx (Mp pen c) H H' → PW H' pen c (n0 + st * n) → H D = none → rL s K H' (.ref D) ys → ys.length = xs.length → (∀ i x, xs[i]? = some x → ∃ y, ys[i]? = some y ∧ R i x y) → Q (.ref D) H') : LcTail J g tYes te vs σ Q H :=
  lcR (E := Kx (Mp pen c)) wk (fun i x o => ∃ y, o = some y ∧ R i x y) (fun i H' => PW H' pen c (n0 + st * i)) hn hm (fun hD k _ e => kx_lst p hD k e) p (fun _ _ _ h e => h.same e) (fun D i H1 H2 hD h b => PW.but p hD b h) hG
    (fun i x v H2 X Z hx hi hr k p2 hX _ => hs i x v H2 X Z hx hi hr k p2 fun H3 w y k3 p3 hw hy => hX H3 w y k3 p3 hw ⟨y, rfl, hy⟩)
    fun H' D ys k p' hD hL hg => q H' D ys k p' hD hL hg.all.1 hg.all.2
theorem k_lcXR1 [Car (Kx (Mp pen c)) s] [Car Same s] [CarB s] {m : Int} (n0 st : Nat) (R : β → Prop) (p : PW H pen c n0) (h0 : 0 ≤ m) (hm : m ≤ 100000)
    (hs : ∀ (i : Nat) H2 X Z, (i : Int) < m → Kx (Mp pen c) H H2 → PW H2 pen c (n0 + st * i) → (∀ H3 w y, Kx (Mp pen c) H2 H3 → PW H3 pen c (n0 + st * (i + 1)) → s K H3 w y → R y → X w H3) → LcTurn g tYes te vs σ (.int (0 + (i : Int))) H2 X Z)
    (q : ∀ H' D ys, Kx (Mp pen c) H H' → PW H' pen c (n0 + st * m.toNat) → H D = none → rL s K H' (.ref D) ys → ys.length = m.toNat → (∀ y ∈ ys, R y) → Q (.ref D) H') : ∃ j : Int, [V.int m] = [.int j] ∧ -(2 ^ 62) ≤ j ∧ j < 2 ^ 62 ∧ LcTail (Itr 0 j.toNat) g tYes te vs σ Q H := by
  refine ⟨m, rfl, by omega, by omega, lcX (r := rI) (s := s) (K := K) walkR_rg n0 st (fun _ _ y => R y) p (by rw [List.length_map, List.length_range]) (by omega) (fun _ _ => trivial) (fun i x v H2 X Z hx hi hr k p2 hX => ?_) fun H' D ys k p' hD hL hl hall => ?_⟩
  · rw [List.getElem?_map, List.getElem?_range hi] at hx
    cases hx
    rw [show v = .int _ from hr]
    exact hs i H2 X Z (by omega) k p2 hX
  · rw [List.length_map, List.length_range] at hl
    refine q H' D ys k p' hD hL hl fun y hy => ?_
    obtain ⟨i, hi⟩ := List.getElem?_of_mem hy
    have lt := (List.getElem?_eq_some_iff.mp hi).1
    obtain ⟨y', h1, h2⟩ := hall i _ (by rw [List.getElem?_map, List.getElem?_range (by omega)]; rfl)
    rw [hi] at h1
    cases h1
    exact h2
end
/-! words and names -/
def spPickV : Sp := fun vs H Q _ => ∃ (pen c l : Addr) (n : Nat) (us : List V), vs = [.ref pen, .ref l] ∧ PW H pen c n ∧ n ≤ 100000000 ∧ H l = some (.lst us) ∧ ¬ Mp pen c l ∧ 0 < us.length ∧ us.length ≤ 1000 ∧ ∀ H' v, Kx (Mp pen c) H H' → PW H' pen c (n + 1) → v ∈ us → Q v H'
theorem ok__law_pick (T : Txt K mg) : FnOk P w K mg base CX0 2 (He.fAd K ("_law_pick", none)) T.d__law_pick ["pen", "row"] spPickV := by
  refine FunD.ok T.fn__law_pick sc__law_pick (fun vs H Q E h => ?_) (fun cdv A outer s H vs Q E hr h => ?_)
  · obtain ⟨pen, c, l, n, ms, rfl, _⟩ := h
    rfl
  · obtain ⟨pen, c, l, n, us, rfl, p, hn, hl, hM, h0, h1, q⟩ := h
    refine ⟨_, PSs.nox (pss_one (ps_ret (pe_ix (ix_listK (K := K)) (pv 1) (pe_call (ok__law_draw T) (hr.mono (by decide)) (by rfl) T.m__law_draw T.fn__law_draw.kp T.b__law_draw .nil pass0 (pa_cons (pv 0) (pa_cons (pe_callB (call_lenK (K := K)) (by rfl) T.z_len PySem.boot_len (pa_cons (pv 1) pa_nil)) pa_nil))) (fun _ _ => rfl)))), ?_⟩
    exists go
    refine ⟨l, us, rfl, .inl (SqL.of hl), ?_⟩
    exists go
    refine k_drawX p (by omega) (by omega) (by omega) fun H1 d k1 p1 l1 u1 => ?_
    exists go
    obtain ⟨v, av, mv⟩ := at_mem (l := us) l1 u1
    exact ⟨l, _, _, _, rfl, rfl, SqL.of (k1 _ _ (fun m => absurd m hM) hl), av, q H1 v k1 p1 mv⟩
def isWord (z : Str) : Prop := okName z
def spWord : Sp := fun vs H Q _ => ∃ (pen c : Addr) (n : Nat) (m : Int), vs = [.ref pen, .int m] ∧ PW H pen c n ∧ n ≤ 10000000 ∧ 1 ≤ m ∧ m ≤ 12 ∧ ∀ H' z, Kx (Mp pen c) H H' → PW H' pen c (n + 13) → okName z → Q (.str z) H'
theorem letter_at : ∀ i : Nat, i < 26 → (Str.ofString "abcdefghijklmnopqrstuvwxyz").cps.toList[i]? = some (97 + i) := by decide +kernel
theorem ok__law_word (T : Txt K mg) : FnOk P w K mg base CX0 2 (He.fAd K ("_law_word", none)) T.d__law_word ["pen", "most"] spWord := by
  refine FunD.ok T.fn__law_word sc__law_word (fun vs H Q E h => ?_) (fun cdv A outer s H vs Q E hr h => ?_)
  · obtain ⟨pen, c, n, m, rfl, _⟩ := h
    rfl
  · obtain ⟨pen, c, n, m, rfl, p, hn, h1, h2, q⟩ := h
    refine ⟨_, PSs.nox (pss_cons (ps_set (i := 2) sc__law_word.nd rfl (Or.inr rfl) pe_str)
  (pss_one (ps_ret (pe_joinK (K := K) pe_str (pe_lcN (own := [("k", 3)]) rfl sc__law_word.nd (pi_range1 rfl T.z_range (pa_cons (pe_op op_add pe_int (pe_call (ok__law_draw T) (hr.mono (by decide)) (by rfl) T.m__law_draw T.fn__law_draw.kp T.b__law_draw .nil pass0 (pa_cons (pv 0) (pa_cons (pv 1) pa_nil)))) pa_nil)) (blkOk_by (own := [("k", 3)]) (N := ["pen", "most", "letters", "k"]) (sc := defScope s__law_word) (by decide +kernel)) (fun _ _ _ _ _ => (pg_name (i := 3) sc__law_word.nd rfl (Or.inl rfl))) (fun _ _ _ _ _ => pts_nil) (fun _ _ _ _ _ => (pe_ix ix_str (pv 2) (pe_call (ok__law_draw T) (hr.mono (by decide)) (by rfl) T.m__law_draw T.fn__law_draw.kp T.b__law_draw .nil pass0 (pa_cons (pv 0) (pa_cons pe_int pa_nil))) (fun _ _ => rfl)))))))), ?_⟩
    exists go
    refine ⟨⟨_, rfl⟩, ?_⟩
    exists go
    refine k_drawX p (by omega) h1 (by omega) fun H1 d k1 p1 l1 u1 => ?_
    exists go
    refine k_lcXR1 (s := rC) (K := K) (n + 1) 1 (fun z => 97 ≤ z ∧ z ≤ 122) p1 (by omega) (by omega) (fun i H2 X Z hi k2 p2 hX => ?_) fun H2 D ys k2 p2 hD hL hl hall => ?_
    · refine ⟨rfl, ?_⟩
      exists go
      refine k_drawX p2 (by omega) (by omega) (by omega) fun H3 e k3 p3 l3 u3 => ?_
      exists go
      refine k_ixS (by decide) l3 (letter_at e.toNat (by omega)) ?_
      exact hX H3 _ _ k3 (by rw [Nat.mul_add, Nat.mul_one, ← Nat.add_assoc]; exact p3) rfl ⟨by omega, by omega⟩
    · have e1 : ys.length = (1 + d).toNat := hl
      refine k_join hL (by omega) ?_
      refine q H2 _ (kx_tr k1 k2) (p2.mono (by omega)) ⟨?_, ?_, hall⟩
      · show 1 ≤ ys.toArray.size
        rw [List.size_toArray]
        omega
      · show ys.toArray.size ≤ 12
        rw [List.size_toArray]
        omega
/-! names -/
def Nms (ns : List Str) : Prop := ns.Nodup ∧ ∀ z ∈ ns, okName z
theorem okName.ok {z : Str} (h : okName z) : PyData.strOk z = true := strOk_iff.mpr fun c hc => by have := h.2.2 c hc; omega
def aWord (n : Int) : Str := timesS (Str.ofString "a") n
def aWords : List Str := (upto 1 (13 - 1)).filterMap fun k => some (aWord k)
theorem aWords_ok : ∀ z ∈ aWords, okName z := by decide +kernel
theorem aWords_nodup : aWords.Nodup := by decide +kernel
theorem len_sub {α : Type} [DecidableEq α] : ∀ {xs ys : List α}, xs.Nodup → (∀ x ∈ xs, x ∈ ys) → xs.length ≤ ys.length
  | [], ys, _, _ => Nat.zero_le _
  | x :: xs, ys, h, hs => by
    have h' := List.nodup_cons.mp h
    have m := hs x List.mem_cons_self
    have := len_sub (ys := ys.erase x) h'.2 fun z hz => (List.mem_erase_of_ne fun e => h'.1 (by rw [← e]; exact hz)).mpr (hs z (List.mem_cons_of_mem _ hz))
    rw [List.length_erase_of_mem m] at this
    have := List.length_pos_of_mem m
    rw [List.length_cons]
    omega
theorem spare_mem {ns : List Str} {z : Str} : z ∈ aWords.filterMap (fun w => if w ∈ ns then none else some w) ↔ z ∈ aWords ∧ z ∉ ns := by
  rw [List.mem_filterMap]
  constructor
  · rintro ⟨w, hw, e⟩
    by_cases g : w ∈ ns
    · rw [if_pos g] at e
      cases e
    · rw [if_neg g] at e
      cases e
      exact ⟨hw, g⟩
  · rintro ⟨h, g⟩
    exact ⟨z, h, if_neg g⟩
theorem spare_some {ns : List Str} (h : ns.length < 12) : ∃ z r, aWords.filterMap (fun w => if w ∈ ns then none else some w) = z :: r ∧ okName z ∧ z ∉ ns := by
  cases e : aWords.filterMap (fun w => if w ∈ ns then none else some w) with
  | nil =>
    have : aWords.length ≤ ns.length := len_sub aWords_nodup fun z hz => by
      by_cases g : z ∈ ns
      · exact g
      · have : z ∈ aWords.filterMap (fun w => if w ∈ ns then none else some w) := spare_mem.mpr ⟨hz, g⟩
        rw [e] at this
        cases this
    have : aWords.length = 12 := by decide +kernel
    omega
  | cons z r =>
    have : z ∈ aWords.filterMap (fun w => if w ∈ ns then none else some w) := by
      rw [e]
      exact List.mem_cons_self
    have := spare_mem.mp this
    exact ⟨z, r, rfl, aWords_ok z this.1, this.2⟩
def spNames (K : PySem.W.Frag) : Sp := fun vs H Q _ => ∃ (pen c : Addr) (n m : Nat), vs = [.ref pen, .int m] ∧ PW H pen c n ∧ n ≤ 1000000 ∧ m ≤ 11 ∧ ∀ H' l ns, Kx (Mp pen c) H H' → PW H' pen c (n + 14 * m) → H l = none → rL rS K H' (.ref l) ns → ns.length = m → Nms ns → Q (.ref l) H'
theorem ok__law_names (T : Txt K mg) : FnOk P w K mg base CX0 3 (He.fAd K ("_law_names", none)) T.d__law_names ["pen", "many"] (spNames K) := by
  refine FunD.ok T.fn__law_names sc__law_names (fun vs H Q E h => ?_) (fun cdv A outer s H vs Q E hr h => ?_)
  · obtain ⟨pen, c, n, m, rfl, _⟩ := h
    rfl
  · obtain ⟨pen, c, n, m, rfl, p, hn, hm, q⟩ := h
    refine ⟨_, PSs.nox (pss_cons (ps_set (i := 2) sc__law_names.nd rfl (Or.inr rfl) (pe_lstN pa_nil))
  (pss_cons (ps_for PassesOwn.never rfl (pi_range1 rfl T.z_range (pa_cons (pv 1) pa_nil)) (pg_name (i := 3) sc__law_names.nd rfl (Or.inl rfl))
  (pss_cons (ps_set (i := 4) sc__law_names.nd rfl (Or.inl rfl) (pe_call (ok__law_word T) (hr.mono (by decide)) (by rfl) T.m__law_word T.fn__law_word.kp T.b__law_word .nil pass0 (pa_cons (pv 0) (pa_cons (pe_ifExpJ (pt_cmpR op_eq (pe_call (ok__law_draw T) (hr.mono (by decide)) (by rfl) T.m__law_draw T.fn__law_draw.kp T.b__law_draw .nil pass0 (pa_cons (pv 0) (pa_cons pe_int pa_nil))) pe_int (nomark _)) pe_int pe_int) pa_nil))))
  (pss_cons (ps_setLcN (i := 5) (own := [("word", 6)]) rfl sc__law_names.nd rfl rfl (sw_true rfl rfl rfl (by decide +kernel)) (pi_listK (K := K) (pe_lcN (own := [("n", 7)]) rfl sc__law_names.nd (pi_range2 rfl T.z_range (pa_cons pe_int (pa_cons pe_int pa_nil))) (blkOk_by (own := [("n", 7)]) (N := ["pen", "many", "found", "k", "name", "spare", "word", "n"]) (sc := defScope s__law_names) (by decide +kernel)) (fun _ _ _ _ _ => (pg_name (i := 7) sc__law_names.nd rfl (Or.inl rfl))) (fun _ _ _ _ _ => pts_nil) (fun _ _ _ _ _ => (pe_op op_mulS pe_str (pv 7))))) (blkOk_by (own := [("word", 6)]) (N := ["pen", "many", "found", "k", "name", "spare", "word", "n"]) (sc := defScope s__law_names) (by decide +kernel)) (fun _ _ _ _ _ => (pg_name (i := 6) sc__law_names.nd rfl (Or.inl rfl))) (fun _ _ _ _ _ => (pts_one (pt_cmpR (op_notInDK (K := K) (units65 hr)) (pv 6) (pv 2) (by rfl)))) (fun _ _ _ _ _ => (pv 6)))
  (pss_one (ps_expr (pe_bm PySem.F.plainAttrs_list PySem.F.slot_list_append PySem.F.type_list_append mt_appendN (pv 2) (pa_cons (pe_ifExpJ (pt_cmpR (op_inDK (K := K) (units65 hr)) (pv 4) (pv 2) (by rfl)) (pe_ix (ix_listK (K := K)) (pv 5) pe_int (fun _ _ => rfl)) (pv 4)) pa_nil)))))))
  (pss_one (ps_ret (pv 2))))), ?_⟩
    exists go
    rename_i H1 l s1 n1 e1
    have hM := notM p n1
    refine ⟨m, rfl, by omega, by omega, forR (r := rI) (K := K) walkR_rg (fun i σ H' => ∃ (ns : List Str) (z3 z4 z5 z6 z7 : Option V), σ = [some (.ref pen), some (.int m), some (.ref l), z3, z4, z5, z6, z7] ∧ Kx (Mp pen c) H H' ∧ PW H' pen c (n + 14 * i) ∧ rM (Mp pen c) rS K H' (.ref l) ns ∧ ns.length = i ∧ Nms ns)
      ⟨[], _, _, _, _, _, rfl, kx_ofS s1, p.same s1, ⟨l, [], rfl, hM, e1, trivial⟩, rfl, .nil, fun _ h => (by cases h)⟩ (fun _ _ _ _ _ => trivial) (fun i x v σ H2 H3 hx hi hP s3 hr => ?_) fun σ H2 hP => ?_⟩
    · obtain ⟨ns, z3, z4, z5, z6, z7, rfl, k2, p2, L2, el, hN⟩ := hP
      have p3 := p2.same s3
      have L3 : rM (Mp pen c) rS K H3 (.ref l) ns := carS s3 L2
      have k3 := kx_same k2 s3
      rw [Int.toNat_natCast] at hi
      exists go
      refine k_ifEJ (fun v H' => ∃ mm : Int, v = .int mm ∧ 1 ≤ mm ∧ mm ≤ 12 ∧ Kx (Mp pen c) H3 H' ∧ PW H' pen c (n + 14 * i + 1)) ?_ ?_
      · exists go
        refine k_drawX p3 (by omega) (by omega) (by omega) fun H4 d k4 p4 l4 u4 => ?_
        exists go
        refine iteB (fun _ => ?_) fun _ => ?_
        · exists go
          exact ⟨by omega, by omega, k4, p4⟩
        · exists go
          exact ⟨by omega, by omega, k4, p4⟩
      rintro v H4 ⟨mm, rfl, m1, m2, k4, p4⟩
      exists go
      refine ⟨pen, c, _, mm, rfl, p4, by omega, m1, m2, fun H5 z k5 p5 hz => ?_⟩
      have L5 : rM (Mp pen c) rS K H5 (.ref l) ns := carM k5 (carM k4 L3)
      exists go
      refine k_lcFR2 (s := rS) (K := K) (fun k => some (aWord k)) ⟨by decide, by decide, by decide, by decide⟩ (by decide) (fun x H6 X Z x1 x2 s6 hX hZ => ?_) fun H6 D6 s6 hD6 hL6 => ?_
      · refine ⟨rfl, ?_⟩
        exists go
        refine k_mulS (by omega) (by omega) (by decide) ?_
        exact hX H6 _ _ (Same.refl _) ⟨rfl, timesS_ok (by decide +kernel)⟩ rfl
      have L6 : rM (Mp pen c) rS K H6 (.ref l) ns := carS s6 L5
      exists go
      refine k_lcFLr (r := rS) (s := rS) (K := K) (fun w => if w ∈ ns then none else some w) hL6 (by decide +kernel) (fun w u H7 X Z hw hu s7 hX hZ => ?_) fun H7 D7 s7 hD7 hL7 => ?_
      · have L7 : rM (Mp pen c) rS K H7 (.ref l) ns := carS s7 L6
        refine ⟨rfl, ?_⟩
        exists go
        refine k_notInR rS hu (rM_l L7) ?_
        by_cases g : w ∈ ns
        · rw [decide_eq_true g]
          exists go
          exact hZ H7 (Same.refl _) (if_pos g)
        · rw [decide_eq_false g]
          exists go
          exact hX H7 _ _ (Same.refl _) hu (if_neg g)
      have L7 : rM (Mp pen c) rS K H7 (.ref l) ns := carS s7 L6
      exists go
      refine k_tyR (rM_l L7) ?_
      exists go
      refine k_ifEJ (fun v H' => ∃ nm, v = .str nm ∧ okName nm ∧ nm ∉ ns ∧ Same H7 H') ?_ ?_
      · exists go
        refine k_inR rS ⟨rfl, hz.ok⟩ (rM_l L7) ?_
        exists go
        refine iteB (fun g => ?_) fun g => ?_
        · obtain ⟨z0, r0, e0, o0, n0⟩ := spare_some (ns := ns) (by omega)
          have hL7' : rL rS K H7 (.ref D7) (z0 :: r0) := e0 ▸ hL7
          exists go
          refine k_ixLR (K := K) hL7' (by omega) (by show (0 : Int) < ((z0 :: r0).length : Nat); rw [List.length_cons]; omega) fun w x hx hw => ?_
          cases hx
          obtain ⟨rfl, _⟩ := hw
          exact ⟨z0, rfl, o0, n0, Same.refl _⟩
        · exists go
          exact ⟨z, rfl, hz, g, Same.refl _⟩
      rintro v2 H8 ⟨nm, rfl, o8, n8, s8⟩
      have L8 : rM (Mp pen c) rS K H8 (.ref l) ns := carS s8 L7
      exists go
      refine k_appB (r := rS) (x := nm) (rM_l L8) ⟨rfl, o8.ok⟩ (by omega) fun H9 ys ey b9 L9 => ?_
      have s58 : Same H5 H8 := (s6.trans s7).trans s8
      exists go
      refine ⟨ns ++ [nm], _, _, _, _, _, rfl, kx_butF (kx_same (kx_tr (kx_tr k3 k4) k5) s58) n1 b9, (PW.butF p n1 b9 (p5.same s58)).mono (by omega), ?_, by rw [List.length_append, el]; rfl, ?_⟩
      · obtain ⟨a, us, e, h1, h2⟩ := L9
        cases e
        exact ⟨l, us, rfl, hM, h1, h2⟩
      · refine ⟨List.nodup_append.mpr ⟨hN.1, List.nodup_cons.mpr ⟨by simp, .nil⟩, fun a ha b hb e => n8 ?_⟩, fun w hw => ?_⟩
        · rw [← List.mem_singleton.mp hb, ← e]
          exact ha
        · rcases List.mem_append.mp hw with h | h
          · exact hN.2 w h
          · rw [List.mem_singleton.mp h]
            exact o8
    · obtain ⟨ns, z3, z4, z5, z6, z7, rfl, k2, p2, L2, el, hN⟩ := hP
      rw [Int.toNat_natCast] at p2 el
      exists go
      exact q H2 l ns k2 p2 n1 (rM_l L2) el hN
end
end Pl

set_option Elab.async false
set_option linter.all false
set_option maxRecDepth 100000
set_option maxHeartbeats 4000000
namespace Pl
open PySem PySem.Spec PyProof.Rows L2 RZ
section
variable {P : Program} {w : World} {K : PySem.W.Frag} {mg : Str → Option Value} {base : Heap} [SupP P]
local macro_rules | `(tactic| exists cgs) => `(tactic| repeat (first | with_reducible apply cg.md | with_reducible apply cg.add | with_reducible apply cg.sub | with_reducible apply cg.mul | with_reducible apply cg.neg | with_reducible exact cg.rf))
local macro_rules | `(tactic| exists cgm) => `(tactic| (apply cg.em; (focus exists cgs); (focus exists cgs); (focus grind)))
local macro_rules | `(tactic| exists hp) => `(tactic| first | assumption | (apply WrapAt.same; (focus assumption); exists hp) | (apply Same.seqT; (focus assumption); exists hp) | (apply Same.seq; (focus assumption); exists hp) | (apply Same.sq; (focus assumption); exists hp) | ((with_reducible apply same_at); (focus assumption); exists hp) | ((with_reducible apply same_trans); (focus assumption); exists hp) | (with_reducible exact Same.refl _))
local macro_rules | `(tactic| exists st) => `(tactic| first | ((with_reducible apply k_var); (focus exact rfl)) | (with_reducible refine k_c ?_) | (with_reducible refine k_op ?_) | (with_reducible refine k_un ?_) | (with_reducible refine k_test ?_) | (with_reducible refine k_tB ?_) | (with_reducible refine k_not ?_) | (with_reducible refine k_or ?_) | (with_reducible refine k_and ?_) | (with_reducible refine k_yes ?_) | (with_reducible refine k_andV ?_) | (with_reducible refine k_orV ?_) | (with_reducible refine k_notV ?_) | (with_reducible refine k_if ?_) | (with_reducible refine k_seq ?_) | (with_reducible refine k_next ?_) | (with_reducible refine k_drop ?_) | (with_reducible refine k_ret ?_) | (with_reducible refine k_retN ?_) | (with_reducible refine k_ifS ?_) | (with_reducible refine k_asg ?_) | (with_reducible refine k_name ?_) | (with_reducible refine k_nil ?_) | (with_reducible refine k_cons ?_) | (with_reducible refine k_call ?_) | (with_reducible refine k_cb ?_) | (with_reducible refine k_lst ?_) | (with_reducible refine k_tup ?_) | (with_reducible refine k_bl ?_) | (with_reducible refine k_i0 ?_) | (with_reducible refine k_u ?_) | (with_reducible refine k_eqI ?_) | (with_reducible refine k_eqB ?_) | (with_reducible refine k_neI ?_) | (with_reducible refine k_ifT ?_) | (with_reducible refine k_ifF ?_) | (with_reducible refine k_ifnT ?_) | (with_reducible refine k_ifnF ?_) | (with_reducible refine k_bl2 ?_) | (with_reducible refine k_ifdR ?_) | (with_reducible refine k_ifndR ?_) | (with_reducible refine k_int ?_) | (with_reducible refine k_ref ?_) | (with_reducible refine k_isB ?_) | (with_reducible refine k_meth ?_) | (with_reducible refine k_fld ?_))
local macro_rules | `(tactic| exists go) => `(tactic| repeat (exists st))
local macro_rules | `(tactic| exists yes) => `(tactic| first | (with_reducible refine k_ifdT (by first | rfl | omega) ?_) | (with_reducible refine k_ifndF (by first | rfl | omega) ?_))
local macro_rules | `(tactic| exists no) => `(tactic| first | (with_reducible refine k_ifdF (by omega) ?_) | (with_reducible refine k_ifndT (by omega) ?_))
local macro_rules | `(tactic| exists st) => `(tactic| first | ((with_reducible apply k_var); (focus exact rfl)) | (with_reducible refine k_c ?_) | (with_reducible refine k_op ?_) | (with_reducible refine k_un ?_) | (with_reducible refine k_test ?_) | (with_reducible refine k_tB ?_) | (with_reducible refine k_not ?_) | (with_reducible refine k_or ?_) | (with_reducible refine k_and ?_) | (with_reducible refine k_yes ?_) | (with_reducible refine k_andV ?_) | (with_reducible refine k_orV ?_) | (with_reducible refine k_notV ?_) | (with_reducible refine k_if ?_) | (with_reducible refine k_seq ?_) | (with_reducible refine k_next ?_) | (with_reducible refine k_drop ?_) | (with_reducible refine k_ret ?_) | (with_reducible refine k_retN ?_) | (with_reducible refine k_ifS ?_) | (with_reducible refine k_asg ?_) | (with_reducible refine k_name ?_) | (with_reducible refine k_nil ?_) | (with_reducible refine k_cons ?_) | (with_reducible refine k_call ?_) | (with_reducible refine k_cb ?_) | (with_reducible refine k_lst ?_) | (with_reducible refine k_tup ?_) | (with_reducible refine k_bl ?_) | (with_reducible refine k_i0 ?_) | (with_reducible refine k_u ?_) | (with_reducible refine k_eqI ?_) | (with_reducible refine k_eqB ?_) | (with_reducible refine k_neI ?_) | (with_reducible refine k_ifT ?_) | (with_reducible refine k_ifF ?_) | (with_reducible refine k_ifnT ?_) | (with_reducible refine k_ifnF ?_) | (with_reducible refine k_bl2 ?_) | (with_reducible refine k_ifdR ?_) | (with_reducible refine k_ifndR ?_) | (with_reducible refine k_int ?_) | (with_reducible refine k_ref ?_) | (with_reducible refine k_isB ?_) | (with_reducible refine k_meth ?_) | (with_reducible refine k_fld ?_) | (with_reducible refine k_callS ?_) | (with_reducible refine k_methS ?_) | (with_reducible refine k_opS ?_) | (with_reducible refine k_smethS ?_) | (with_reducible refine k_atEnd ?_) | (with_reducible refine k_atRt ?_) | (with_reducible refine k_nonR ?_) | (with_reducible refine k_makeS ?_) | (with_reducible refine k_make ?_) | (with_reducible refine k_refnon ?_) | (with_reducible refine k_par ?_) | (with_reducible refine k_par3 ?_) | (with_reducible refine k_two ?_) | (with_reducible refine k_three ?_) | (with_reducible refine k_smeth ?_) | (with_reducible refine k_self ?_) | (with_reducible refine k_neS ?_) | (with_reducible refine k_eqS ?_) | (with_reducible refine k_chain ?_) | ((with_reducible apply k_newT); (focus exact Nat.le_of_ble_eq_true rfl); intro _ _ _ _) | ((with_reducible apply k_newL); (focus exact Nat.le_of_ble_eq_true rfl); intro _ _ _ _ _))
local macro_rules | `(tactic| exists st) => `(tactic| first | (with_reducible refine k_ex1 ?_) | (with_reducible refine k_ex0 ?_) | (with_reducible refine k_lcR1 ?_) | (with_reducible refine k_lcR2 ?_) | (with_reducible refine k_lcL ?_) | (with_reducible refine k_lcT ?_) | (with_reducible refine k_lcQ ?_) | (with_reducible refine k_neB ?_) | (with_reducible refine k_bits ?_) | (with_reducible refine k_prop ?_) | (with_reducible refine k_sl ?_) | (with_reducible refine k_noPart ?_) | (with_reducible refine k_part ?_))
local macro_rules | `(tactic| exists sd) => `(tactic| first | exact ⟨by decide, by decide⟩ | exact Or.inr ⟨by decide, by decide⟩ | exact Or.inl ⟨by decide, by decide⟩ | exact ⟨by decide, by decide, by decide⟩ | exact Or.inl ⟨by omega, by omega⟩ | exact Or.inr ⟨by omega, by omega⟩ | exact ⟨by omega, by omega⟩ | decide | omega)
local macro_rules | `(tactic| exists st) => `(tactic| ((with_reducible apply k_iC); (focus exists sd)))
local macro_rules | `(tactic| exists st) => `(tactic| first | (with_reducible refine k_lrg ?_) | (with_reducible refine k_rg1 ?_) | (with_reducible refine k_append ?_) | (with_reducible refine k_forL ?_) | (with_reducible refine k_forT ?_) | (with_reducible refine k_setOwn ?_) | (with_reducible refine k_gsub ?_) | (with_reducible refine k_forR1 ?_) | (with_reducible refine k_forR2 ?_))
local macro_rules | `(tactic| exists hp) => `(tactic| first | assumption | ((with_reducible apply carS); (focus assumption); exists hp) | ((with_reducible apply carK); (focus assumption); exists hp) | ((with_reducible apply rL_q); exists hp) | ((with_reducible apply rT_q); exists hp))
local macro_rules | `(tactic| exists st) => `(tactic| first | (with_reducible refine k_forEn ?_) | (with_reducible refine k_forEnK ?_) | (with_reducible refine k_forZipQ ?_) | (with_reducible refine k_lcEn ?_) | (with_reducible refine k_lcZipQ ?_))
local macro_rules | `(tactic| exists st) => `(tactic| first | (with_reducible refine k_tupZip ?_))
local macro_rules | `(tactic| exists st) => `(tactic| first | (with_reducible refine k_rawT ?_) | (with_reducible refine k_tJoin ?_) | (with_reducible refine k_lcStr ?_) | (with_reducible refine k_dIn ?_) | (with_reducible refine k_dPut ?_) | (with_reducible refine k_dNew ?_))
local macro_rules | `(tactic| exists hp) => `(tactic| first | assumption | ((with_reducible apply carS); (focus assumption); exists hp) | ((with_reducible apply carM); (focus assumption); exists hp) | ((with_reducible apply rL_q); exists hp) | ((with_reducible apply rT_q); exists hp))
theorem k_numX {pen c : Addr} {n : Nat} {H : Hp} {Q : VK} {E : XK} (p : PW H pen c n) (h : n ≤ 10000000) (q : ∀ H' (z : Int), Kx (Mp pen c) H H' → PW H' pen c (n + 6) → Q (.int z) H') : spNumber ([.ref pen] ++ []) H Q E := ⟨pen, c, n, rfl, p, h, fun H' z k p' _ => q H' z (kx_of p k) p'⟩
theorem k_pickX {pen c l : Addr} {n : Nat} {us : List V} {H : Hp} {Q : VK} {E : XK} (p : PW H pen c n) (hn : n ≤ 100000000) (hl : H l = some (.lst us)) (hM : ¬ Mp pen c l) (h0 : 0 < us.length) (h1 : us.length ≤ 1000) (q : ∀ H' v, Kx (Mp pen c) H H' → PW H' pen c (n + 1) → v ∈ us → Q v H') : spPickV ([.ref pen, .ref l] ++ []) H Q E :=
  ⟨pen, c, l, n, us, rfl, p, hn, hl, hM, h0, h1, q⟩
def PairsJ (K : PySem.W.Frag) (pen c l : Addr) (H : Hp) (N : Nat) (σ : L2.St) (H' : Hp) : Prop := ∃ (rs : Rgs) (z2 z3 z4 z5 : Option V), σ = [some (.ref pen), some (.ref l), z2, z3, z4, z5] ∧ Kx (Mp pen c) H H' ∧ PW H' pen c N ∧ rM (Mp pen c) rRg K H' (.ref l) rs ∧ rs.length ≤ 9
def spPairs (K : PySem.W.Frag) : Sp := fun vs H Q _ => ∃ (pen c : Addr) (n : Nat), vs = [.ref pen] ∧ PW H pen c n ∧ n ≤ 1000000 ∧ ∀ H' l rs, Kx (Mp pen c) H H' → PW H' pen c (n + 80) → H l = none → rM (Mp pen c) rRg K H' (.ref l) rs → rs.length ≤ 9 → Q (.ref l) H'
theorem ok__law_pairs (T : Txt K mg) : FnOk P w K mg base CX0 3 (He.fAd K ("_law_pairs", none)) T.d__law_pairs ["pen"] (spPairs K) := by
  refine FunD.ok T.fn__law_pairs sc__law_pairs (fun vs H Q E h => ?_) (fun cdv A outer s H vs Q E hr h => ?_)
  · obtain ⟨pen, c, n, rfl, _⟩ := h
    rfl
  · obtain ⟨pen, c, n, rfl, p, hn, q⟩ := h
    refine ⟨_, PSs.nox (pss_cons (ps_set (i := 1) sc__law_pairs.nd rfl (Or.inl rfl) (pe_lstN pa_nil))
  (pss_cons (ps_for PassesOwn.never rfl (pi_range1 rfl T.z_range (pa_cons (pe_ifExpJ (pt_cmpR op_eq (pe_call (ok__law_draw T) (hr.mono (by decide)) (by rfl) T.m__law_draw T.fn__law_draw.kp T.b__law_draw .nil pass0 (pa_cons (pv 0) (pa_cons pe_int pa_nil))) pe_int (nomark _)) (pe_call (ok__law_pick T) (hr.mono (by decide)) (by rfl) T.m__law_pick T.fn__law_pick.kp T.b__law_pick .nil pass0 (pa_cons (pv 0) (pa_cons (pe_lstN (pa_cons pe_int (pa_cons pe_int (pa_cons pe_int (pa_cons pe_int (pa_cons pe_int (pa_cons pe_int (pa_cons pe_int (pa_cons pe_int pa_nil))))))))) pa_nil))) (pe_call (ok__law_draw T) (hr.mono (by decide)) (by rfl) T.m__law_draw T.fn__law_draw.kp T.b__law_draw .nil pass0 (pa_cons (pv 0) (pa_cons pe_int pa_nil)))) pa_nil)) (pg_name (i := 2) sc__law_pairs.nd rfl (Or.inl rfl))
  (pss_cons (ps_set (i := 3) sc__law_pairs.nd rfl (Or.inl rfl) (pe_call (ok__law_number T) (hr.mono (by decide)) (by rfl) T.m__law_number T.fn__law_number.kp T.b__law_number .nil pass0 (pa_cons (pv 0) pa_nil)))
  (pss_one (ps_expr (pe_bm PySem.F.plainAttrs_list PySem.F.slot_list_append PySem.F.type_list_append mt_appendN (pv 1) (pa_cons (pe_tupK (K := K) (pa_cons (pv 3) (pa_cons (pe_op op_add (pv 3) (pe_call (ok__law_draw T) (hr.mono (by decide)) (by rfl) T.m__law_draw T.fn__law_draw.kp T.b__law_draw .nil pass0 (pa_cons (pv 0) (pa_cons pe_int pa_nil)))) pa_nil))) pa_nil))))))
  (pss_cons (ps_ifJ (PW.pt (pw_and (pt_cmpR (op_neDK (K := K) hr.units) (pv 1) (pe_lstN pa_nil) (nomark _)) (pw_and1 (pt_cmpR op_eq (pe_call (ok__law_draw T) (hr.mono (by decide)) (by rfl) T.m__law_draw T.fn__law_draw.kp T.b__law_draw .nil pass0 (pa_cons (pv 0) (pa_cons pe_int pa_nil))) pe_int (nomark _)))))
  (pss_cons (ps_set (i := 4) sc__law_pairs.nd rfl (Or.inl rfl) (pe_call (ok__law_draw T) (hr.mono (by decide)) (by rfl) T.m__law_draw T.fn__law_draw.kp T.b__law_draw .nil pass0 (pa_cons (pv 0) (pa_cons (pe_callB (call_lenK (K := K)) (by rfl) T.z_len PySem.boot_len (pa_cons (pv 1) pa_nil)) pa_nil))))
  (pss_one (ps_asg (pe_tupK (K := K) (pa_cons (pe_op op_add (pe_ix (ix_tupK (K := K)) (pe_ix (ix_listK (K := K)) (pv 1) (pv 4) (fun _ _ => rfl)) pe_int (fun _ _ => rfl)) pe_int) (pa_cons (pe_ix (ix_tupK (K := K)) (pe_ix (ix_listK (K := K)) (pv 1) (pv 4) (fun _ _ => rfl)) pe_int (fun _ _ => rfl)) pa_nil))) (pg_sub (pv 1) (pv 4) set_list))))
  pss_nil)
  (pss_cons (ps_ifJ (PW.pt (pw_and (pt_cmpR (op_neDK (K := K) hr.units) (pv 1) (pe_lstN pa_nil) (nomark _)) (pw_and1 (pt_cmpR op_eq (pe_call (ok__law_draw T) (hr.mono (by decide)) (by rfl) T.m__law_draw T.fn__law_draw.kp T.b__law_draw .nil pass0 (pa_cons (pv 0) (pa_cons pe_int pa_nil))) pe_int (nomark _)))))
  (pss_cons (ps_set (i := 5) sc__law_pairs.nd rfl (Or.inl rfl) (pe_op op_sub (pe_op op_powX (pe_op op_pow pe_int pe_int) pe_int) (pe_call (ok__law_draw T) (hr.mono (by decide)) (by rfl) T.m__law_draw T.fn__law_draw.kp T.b__law_draw .nil pass0 (pa_cons (pv 0) (pa_cons pe_int pa_nil)))))
  (pss_cons (ps_set (i := 4) sc__law_pairs.nd rfl (Or.inl rfl) (pe_call (ok__law_draw T) (hr.mono (by decide)) (by rfl) T.m__law_draw T.fn__law_draw.kp T.b__law_draw .nil pass0 (pa_cons (pv 0) (pa_cons (pe_callB (call_lenK (K := K)) (by rfl) T.z_len PySem.boot_len (pa_cons (pv 1) pa_nil)) pa_nil))))
  (pss_one (ps_asg (pe_call (ok__law_pick T) (hr.mono (by decide)) (by rfl) T.m__law_pick T.fn__law_pick.kp T.b__law_pick .nil pass0 (pa_cons (pv 0) (pa_cons (pe_lstN (pa_cons (pe_tupK (K := K) (pa_cons pe_int (pa_cons (pv 5) pa_nil))) (pa_cons (pe_tupK (K := K) (pa_cons (pe_un un_neg (pv 5)) (pa_cons pe_int pa_nil))) (pa_cons (pe_tupK (K := K) (pa_cons (pe_un un_neg (pv 5)) (pa_cons (pv 5) pa_nil))) (pa_cons (pe_tupK (K := K) (pa_cons (pv 5) (pa_cons (pv 5) pa_nil))) pa_nil))))) pa_nil))) (pg_sub (pv 1) (pv 4) set_list)))))
  pss_nil)
  (pss_one (ps_ret (pv 1))))))), ?_⟩
    exists go
    rename_i H1 l s1 n1 e1
    have hM := notM p n1
    have p1 := p.same s1
    refine k_ifEJ (fun v H' => ∃ j : Int, v = .int j ∧ 0 ≤ j ∧ j ≤ 9 ∧ Kx (Mp pen c) H1 H' ∧ PW H' pen c (n + 2)) ?_ ?_
    · exists go
      refine k_drawX p1 (by omega) (by omega) (by omega) fun H2 d k2 p2 l2 u2 => ?_
      exists go
      refine iteB (fun _ => ?_) fun _ => ?_
      · exists go
        rename_i H3 l3 s3 n3 e3
        refine k_pickX (p2.same s3) (by omega) e3 (notM p2 n3) (by decide) (by decide) fun H4 v k4 p4 hv => ?_
        simp only [List.mem_cons, List.not_mem_nil, or_false] at hv
        have kk := kx_tr (kx_same k2 s3) k4
        rcases hv with rfl | rfl | rfl | rfl | rfl | rfl | rfl | rfl <;> exact ⟨_, rfl, by omega, by omega, kk, p4⟩
      · exists go
        refine k_drawX p2 (by omega) (by omega) (by omega) fun H3 d k3 p3 l3 u3 => ?_
        exact ⟨_, rfl, by omega, by omega, kx_tr k2 k3, p3⟩
    rintro v H2 ⟨j, rfl, j0, j9, k2, p2⟩
    exists go
    have L2 : rM (Mp pen c) rRg K H2 (.ref l) [] := carM k2 (⟨l, [], rfl, hM, e1, trivial⟩ : rM (Mp pen c) rRg K H1 (.ref l) [])
    refine ⟨j, rfl, by omega, by omega, forR (r := rI) (K := K) walkR_rg (fun i σ H' => ∃ (rs : Rgs) (z2 z3 z4 z5 : Option V), σ = [some (.ref pen), some (.ref l), z2, z3, z4, z5] ∧ Kx (Mp pen c) H H' ∧ PW H' pen c (n + 2 + 7 * i) ∧ rM (Mp pen c) rRg K H' (.ref l) rs ∧ rs.length = i)
      ⟨[], _, _, _, _, rfl, kx_tr (kx_ofS s1) k2, p2, L2, rfl⟩ (fun _ _ _ _ _ => trivial) (fun i x v σ H3 H4 hx hi hP s4 hr => ?_) fun σ H3 hP => ?_⟩
    · obtain ⟨rs, z2, z3, z4, z5, rfl, k3, p3, L3, el⟩ := hP
      have p4 := p3.same s4
      have k4 := kx_same k3 s4
      have L4 : rM (Mp pen c) rRg K H4 (.ref l) rs := carS s4 L3
      exists go
      refine k_numX p4 (by omega) fun H5 z k5 p5 => ?_
      exists go
      have L5 : rM (Mp pen c) rRg K H5 (.ref l) rs := carM k5 L4
      refine k_tyR (rM_l L5) ?_
      exists go
      refine k_drawX p5 (by omega) (by omega) (by omega) fun H6 d k6 p6 l6 u6 => ?_
      exists go
      rename_i H7 t7 s7 h7
      have L7 : rM (Mp pen c) rRg K H7 (.ref l) rs := carS s7 (carM k6 L5)
      refine k_appB (r := rRg) (x := (z, z + d)) (rM_l L7) (rPair_of h7 rfl rfl) (by omega) fun H9 ys ey b9 L9 => ?_
      exists go
      refine ⟨rs ++ [(z, z + d)], _, _, _, _, rfl, kx_butF (kx_same (kx_tr (kx_tr k4 k5) k6) s7) n1 b9, (PW.butF p n1 b9 (p6.same s7)).mono (by omega), ?_, by rw [List.length_append, el]; rfl⟩
      obtain ⟨a, us, e, g1, g2⟩ := L9
      cases e
      exact ⟨l, us, rfl, hM, g1, g2⟩
    obtain ⟨rs, z2, z3, z4, z5, rfl, k3, p3, L3, el⟩ := hP
    have hj : j.toNat ≤ 9 := by omega
    refine k_ifJ (PairsJ K pen c l H (n + 68)) ?_ ?_
    · exists go
      rename_i H4 l4 s4 n4 e4
      have L4 : rM (Mp pen c) rRg K H4 (.ref l) rs := carS s4 L3
      have p4 := (p3.same s4).mono (m := n + 65) (by omega)
      have k4 := kx_same k3 s4
      refine k_neR (rL rRg) (rM_l L4) (y := []) (⟨l4, [], rfl, e4, trivial⟩ : rL rRg K H4 (.ref l4) []) ?_
      by_cases g : rs = []
      · rw [decide_eq_true g]
        exists go
        exact ⟨rs, _, _, _, _, rfl, k4, p4.mono (by omega), L4, by omega⟩
      · rw [decide_eq_false g]
        have hp : 0 < rs.length := List.length_pos_iff.mpr g
        exists go
        refine k_drawX p4 (by omega) (by omega) (by omega) fun H5 d5 k5 p5 l5 u5 => ?_
        exists go
        refine iteB (fun _ => ?_) fun _ => ?_
        · exists go
          have L5 : rM (Mp pen c) rRg K H5 (.ref l) rs := carM k5 L4
          refine k_lenR (K := K) (rL_q (rM_l L5)) ?_
          exists go
          refine k_drawX p5 (by omega) (by omega) (by omega) fun H6 d6 k6 p6 l6 u6 => ?_
          have L6 : rM (Mp pen c) rRg K H6 (.ref l) rs := carM k6 L5
          exists go
          refine k_ixLR (K := K) (rM_l L6) l6 (by omega) fun w x hx hw => ?_
          exists go
          refine k_ixP1 hw fun w1 hw1 => ?_
          cases hw1
          exists go
          refine k_ixLR (K := K) (rM_l L6) l6 (by omega) fun w' x' hx' hw' => ?_
          exists go
          refine k_ixP1 hw' fun w2 hw2 => ?_
          cases hw2
          exists go
          rename_i H7 t7 s7 h7
          have L7 : rM (Mp pen c) rRg K H7 (.ref l) rs := carS s7 L6
          refine k_setR (r := rRg) (K := K) (x := (x.2 + 1, x'.2)) (rM_l L7) (rPair_of h7 rfl rfl) l6 (by omega) fun H8 b8 L8 => ?_
          refine ⟨rs.set d6.toNat (x.2 + 1, x'.2), _, _, _, _, rfl, kx_butF (kx_same (kx_tr (kx_tr k4 k5) k6) s7) n1 b8, (PW.butF p n1 b8 (p6.same s7)).mono (by omega), ?_, by rw [List.length_set]; omega⟩
          obtain ⟨a, us, e, g1, g2⟩ := L8
          cases e
          exact ⟨l, us, rfl, hM, g1, g2⟩
        · exists go
          exact ⟨rs, _, _, _, _, rfl, kx_tr k4 k5, p5.mono (by omega), carM k5 L4, by omega⟩
    rintro σ H4 ⟨rs, z2, z3, z4, z5, rfl, k4, p4, L4, el⟩
    exists go
    refine k_ifJ (PairsJ K pen c l H (n + 78)) ?_ ?_
    · exists go
      rename_i H5 l5 s5 n5 e5
      have L5 : rM (Mp pen c) rRg K H5 (.ref l) rs := carS s5 L4
      have p5 := p4.same s5
      have k5 := kx_same k4 s5
      refine k_neR (rL rRg) (rM_l L5) (y := []) (⟨l5, [], rfl, e5, trivial⟩ : rL rRg K H5 (.ref l5) []) ?_
      by_cases g : rs = []
      · rw [decide_eq_true g]
        exists go
        exact ⟨rs, _, _, _, _, rfl, k5, p5.mono (by omega), L5, el⟩
      · rw [decide_eq_false g]
        have hp : 0 < rs.length := List.length_pos_iff.mpr g
        exists go
        refine k_drawX p5 (by omega) (by omega) (by omega) fun H6 d6 k6 p6 l6 u6 => ?_
        exists go
        refine iteB (fun _ => ?_) fun _ => ?_
        · exists go
          have eg : ((10 : Int) ^ (60 : Int).toNat) ^ (10 : Int).toNat = great := by decide +kernel
          rw [eg]
          exists go
          refine k_drawX p6 (by omega) (by omega) (by omega) fun H7 d7 k7 p7 l7 u7 => ?_
          exists go
          have L7 : rM (Mp pen c) rRg K H7 (.ref l) rs := carM k7 (carM k6 L5)
          refine k_lenR (K := K) (rL_q (rM_l L7)) ?_
          exists go
          refine k_drawX p7 (by omega) (by omega) (by omega) fun H8 d8 k8 p8 l8 u8 => ?_
          exists go
          rename_i H9 t9 s9 h9 H10 t10 s10 h10 H11 t11 s11 h11 H12 t12 s12 h12 H13 l13 s13 n13 e13
          have s8d : Same H8 H12 := ((s9.trans s10).trans s11).trans s12
          have p12 := p8.same s8d
          have L13 : rM (Mp pen c) rRg K H13 (.ref l) rs := carS s13 (carS s8d (carM k8 L7))
          have a9 : rRg K H13 (.ref t9) (0, great - d7) := rPair_of ((((s10.trans s11).trans s12).trans s13).seqT h9) rfl rfl
          have a10 : rRg K H13 (.ref t10) (-(great - d7), 0) := rPair_of (((s11.trans s12).trans s13).seqT h10) rfl rfl
          have a11 : rRg K H13 (.ref t11) (-(great - d7), great - d7) := rPair_of ((s12.trans s13).seqT h11) rfl rfl
          have a12 : rRg K H13 (.ref t12) (great - d7, great - d7) := rPair_of (s13.seqT h12) rfl rfl
          refine k_pickX (p12.same s13) (by omega) e13 (notM p12 n13) (by show 0 < 4; decide) (by show 4 ≤ 1000; decide) fun H14 v k14 p14 hv => ?_
          have hv' : ∃ pr, rRg K H14 v pr := by
            simp only [List.mem_cons, List.not_mem_nil, or_false] at hv
            rcases hv with rfl | rfl | rfl | rfl
            · exact ⟨_, carM k14 a9⟩
            · exact ⟨_, carM k14 a10⟩
            · exact ⟨_, carM k14 a11⟩
            · exact ⟨_, carM k14 a12⟩
          obtain ⟨pr, hpr⟩ := hv'
          have L14 : rM (Mp pen c) rRg K H14 (.ref l) rs := carM k14 L13
          exists go
          refine k_setR (r := rRg) (K := K) (x := pr) (rM_l L14) hpr l8 (by omega) fun H15 b15 L15 => ?_
          have kk := kx_tr (kx_same (kx_tr (kx_tr (kx_tr k5 k6) k7) k8) (s8d.trans s13)) k14
          refine ⟨rs.set d8.toNat pr, _, _, _, _, rfl, kx_butF kk n1 b15, (PW.butF p n1 b15 p14).mono (by omega), ?_, by rw [List.length_set]; omega⟩
          obtain ⟨a, us, e, g1, g2⟩ := L15
          cases e
          exact ⟨l, us, rfl, hM, g1, g2⟩
        · exists go
          exact ⟨rs, _, _, _, _, rfl, kx_tr k5 k6, p6.mono (by omega), carM k6 L5, el⟩
    rintro σ H5 ⟨rs, z2, z3, z4, z5, rfl, k5, p5, L5, el⟩
    exists go
    exact q H5 l rs k5 (p5.mono (by omega)) n1 L5 el
end
end Pl

set_option Elab.async false
set_option linter.all false
set_option maxRecDepth 100000
set_option maxHeartbeats 4000000
namespace Pl
open PySem PySem.Spec PyProof.Rows L2 RZ
section
variable {P : Program} {w : World} {K : PySem.W.Frag} {mg : Str → Option Value} {base : Heap} [SupP P]
local macro_rules | `(tactic| exists cgs) => `(tactic| repeat (first | with_reducible apply cg.md | with_reducible apply cg.add | with_reducible apply cg.sub | with_reducible apply cg.mul | with_reducible apply cg.neg | with_reducible exact cg.rf))
local macro_rules | `(tactic| exists cgm) => `(tactic| (apply cg.em; (focus exists cgs); (focus exists cgs); (focus grind)))
local macro_rules | `(tactic| exists hp) => `(tactic| first | assumption | (apply WrapAt.same; (focus assumption); exists hp) | (apply Same.seqT; (focus assumption); exists hp) | (apply Same.seq; (focus assumption); exists hp) | (apply Same.sq; (focus assumption); exists hp) | ((with_reducible apply same_at); (focus assumption); exists hp) | ((with_reducible apply same_trans); (focus assumption); exists hp) | (with_reducible exact Same.refl _))
local macro_rules | `(tactic| exists st) => `(tactic| first | ((with_reducible apply k_var); (focus exact rfl)) | (with_reducible refine k_c ?_) | (with_reducible refine k_op ?_) | (with_reducible refine k_un ?_) | (with_reducible refine k_test ?_) | (with_reducible refine k_tB ?_) | (with_reducible refine k_not ?_) | (with_reducible refine k_or ?_) | (with_reducible refine k_and ?_) | (with_reducible refine k_yes ?_) | (with_reducible refine k_andV ?_) | (with_reducible refine k_orV ?_) | (with_reducible refine k_notV ?_) | (with_reducible refine k_if ?_) | (with_reducible refine k_seq ?_) | (with_reducible refine k_next ?_) | (with_reducible refine k_drop ?_) | (with_reducible refine k_ret ?_) | (with_reducible refine k_retN ?_) | (with_reducible refine k_ifS ?_) | (with_reducible refine k_asg ?_) | (with_reducible refine k_name ?_) | (with_reducible refine k_nil ?_) | (with_reducible refine k_cons ?_) | (with_reducible refine k_call ?_) | (with_reducible refine k_cb ?_) | (with_reducible refine k_lst ?_) | (with_reducible refine k_tup ?_) | (with_reducible refine k_bl ?_) | (with_reducible refine k_i0 ?_) | (with_reducible refine k_u ?_) | (with_reducible refine k_eqI ?_) | (with_reducible refine k_eqB ?_) | (with_reducible refine k_neI ?_) | (with_reducible refine k_ifT ?_) | (with_reducible refine k_ifF ?_) | (with_reducible refine k_ifnT ?_) | (with_reducible refine k_ifnF ?_) | (with_reducible refine k_bl2 ?_) | (with_reducible refine k_ifdR ?_) | (with_reducible refine k_ifndR ?_) | (with_reducible refine k_int ?_) | (with_reducible refine k_ref ?_) | (with_reducible refine k_isB ?_) | (with_reducible refine k_meth ?_) | (with_reducible refine k_fld ?_))
local macro_rules | `(tactic| exists go) => `(tactic| repeat (exists st))
local macro_rules | `(tactic| exists yes) => `(tactic| first | (with_reducible refine k_ifdT (by first | rfl | omega) ?_) | (with_reducible refine k_ifndF (by first | rfl | omega) ?_))
local macro_rules | `(tactic| exists no) => `(tactic| first | (with_reducible refine k_ifdF (by omega) ?_) | (with_reducible refine k_ifndT (by omega) ?_))
local macro_rules | `(tactic| exists st) => `(tactic| first | ((with_reducible apply k_var); (focus exact rfl)) | (with_reducible refine k_c ?_) | (with_reducible refine k_op ?_) | (with_reducible refine k_un ?_) | (with_reducible refine k_test ?_) | (with_reducible refine k_tB ?_) | (with_reducible refine k_not ?_) | (with_reducible refine k_or ?_) | (with_reducible refine k_and ?_) | (with_reducible refine k_yes ?_) | (with_reducible refine k_andV ?_) | (with_reducible refine k_orV ?_) | (with_reducible refine k_notV ?_) | (with_reducible refine k_if ?_) | (with_reducible refine k_seq ?_) | (with_reducible refine k_next ?_) | (with_reducible refine k_drop ?_) | (with_reducible refine k_ret ?_) | (with_reducible refine k_retN ?_) | (with_reducible refine k_ifS ?_) | (with_reducible refine k_asg ?_) | (with_reducible refine k_name ?_) | (with_reducible refine k_nil ?_) | (with_reducible refine k_cons ?_) | (with_reducible refine k_call ?_) | (with_reducible refine k_cb ?_) | (with_reducible refine k_lst ?_) | (with_reducible refine k_tup ?_) | (with_reducible refine k_bl ?_) | (with_reducible refine k_i0 ?_) | (with_reducible refine k_u ?_) | (with_reducible refine k_eqI ?_) | (with_reducible refine k_eqB ?_) | (with_reducible refine k_neI ?_) | (with_reducible refine k_ifT ?_) | (with_reducible refine k_ifF ?_) | (with_reducible refine k_ifnT ?_) | (with_reducible refine k_ifnF ?_) | (with_reducible refine k_bl2 ?_) | (with_reducible refine k_ifdR ?_) | (with_reducible refine k_ifndR ?_) | (with_reducible refine k_int ?_) | (with_reducible refine k_ref ?_) | (with_reducible refine k_isB ?_) | (with_reducible refine k_meth ?_) | (with_reducible refine k_fld ?_) | (with_reducible refine k_callS ?_) | (with_reducible refine k_methS ?_) | (with_reducible refine k_opS ?_) | (with_reducible refine k_smethS ?_) | (with_reducible refine k_atEnd ?_) | (with_reducible refine k_atRt ?_) | (with_reducible refine k_nonR ?_) | (with_reducible refine k_makeS ?_) | (with_reducible refine k_make ?_) | (with_reducible refine k_refnon ?_) | (with_reducible refine k_par ?_) | (with_reducible refine k_par3 ?_) | (with_reducible refine k_two ?_) | (with_reducible refine k_three ?_) | (with_reducible refine k_smeth ?_) | (with_reducible refine k_self ?_) | (with_reducible refine k_neS ?_) | (with_reducible refine k_eqS ?_) | (with_reducible refine k_chain ?_) | ((with_reducible apply k_newT); (focus exact Nat.le_of_ble_eq_true rfl); intro _ _ _ _) | ((with_reducible apply k_newL); (focus exact Nat.le_of_ble_eq_true rfl); intro _ _ _ _ _))
local macro_rules | `(tactic| exists st) => `(tactic| first | (with_reducible refine k_ex1 ?_) | (with_reducible refine k_ex0 ?_) | (with_reducible refine k_lcR1 ?_) | (with_reducible refine k_lcR2 ?_) | (with_reducible refine k_lcL ?_) | (with_reducible refine k_lcT ?_) | (with_reducible refine k_lcQ ?_) | (with_reducible refine k_neB ?_) | (with_reducible refine k_bits ?_) | (with_reducible refine k_prop ?_) | (with_reducible refine k_sl ?_) | (with_reducible refine k_noPart ?_) | (with_reducible refine k_part ?_))
local macro_rules | `(tactic| exists sd) => `(tactic| first | exact ⟨by decide, by decide⟩ | exact Or.inr ⟨by decide, by decide⟩ | exact Or.inl ⟨by decide, by decide⟩ | exact ⟨by decide, by decide, by decide⟩ | exact Or.inl ⟨by omega, by omega⟩ | exact Or.inr ⟨by omega, by omega⟩ | exact ⟨by omega, by omega⟩ | decide | omega)
local macro_rules | `(tactic| exists st) => `(tactic| ((with_reducible apply k_iC); (focus exists sd)))
local macro_rules | `(tactic| exists st) => `(tactic| first | (with_reducible refine k_lrg ?_) | (with_reducible refine k_rg1 ?_) | (with_reducible refine k_append ?_) | (with_reducible refine k_forL ?_) | (with_reducible refine k_forT ?_) | (with_reducible refine k_setOwn ?_) | (with_reducible refine k_gsub ?_) | (with_reducible refine k_forR1 ?_) | (with_reducible refine k_forR2 ?_))
local macro_rules | `(tactic| exists hp) => `(tactic| first | assumption | ((with_reducible apply carS); (focus assumption); exists hp) | ((with_reducible apply carK); (focus assumption); exists hp) | ((with_reducible apply rL_q); exists hp) | ((with_reducible apply rT_q); exists hp))
local macro_rules | `(tactic| exists st) => `(tactic| first | (with_reducible refine k_forEn ?_) | (with_reducible refine k_forEnK ?_) | (with_reducible refine k_forZipQ ?_) | (with_reducible refine k_lcEn ?_) | (with_reducible refine k_lcZipQ ?_))
local macro_rules | `(tactic| exists st) => `(tactic| first | (with_reducible refine k_tupZip ?_))
local macro_rules | `(tactic| exists st) => `(tactic| first | (with_reducible refine k_rawT ?_) | (with_reducible refine k_tJoin ?_) | (with_reducible refine k_lcStr ?_) | (with_reducible refine k_dIn ?_) | (with_reducible refine k_dPut ?_) | (with_reducible refine k_dNew ?_))
local macro_rules | `(tactic| exists hp) => `(tactic| first | assumption | ((with_reducible apply carS); (focus assumption); exists hp) | ((with_reducible apply carM); (focus assumption); exists hp) | ((with_reducible apply rL_q); exists hp) | ((with_reducible apply rT_q); exists hp))
def rDue : Rel (List (Str × Rgs)) := fun K H v ins => match dueC ins with
  | some true => ∃ T, v = .ref T ∧ SqT K H T [.str "bad", .non, .bl true, .bl false]
  | some false => ∃ T, v = .ref T ∧ SqT K H T [.str "great", .bl true, .bl false]
  | none => ∃ T a, v = .ref T ∧ SqT K H T [.str "made", a] ∧ rIns K H a ins
theorem rDue_bad {H : Hp} {T : Addr} {ins : List (Str × Rgs)} (e : dueC ins = some true) (h : SqT K H T [.str "bad", .non, .bl true, .bl false]) : rDue K H (.ref T) ins := by
  unfold rDue
  rw [e]
  exact ⟨T, rfl, h⟩
theorem rDue_great {H : Hp} {T : Addr} {ins : List (Str × Rgs)} (e : dueC ins = some false) (h : SqT K H T [.str "great", .bl true, .bl false]) : rDue K H (.ref T) ins := by
  unfold rDue
  rw [e]
  exact ⟨T, rfl, h⟩
theorem rDue_made {H : Hp} {T : Addr} {a : V} {ins : List (Str × Rgs)} (e : dueC ins = none) (h : SqT K H T [.str "made", a]) (h2 : rIns K H a ins) : rDue K H (.ref T) ins := by
  unfold rDue
  rw [e]
  exact ⟨T, a, rfl, h, h2⟩
theorem letters_mem (c : Nat) : c ∈ (Str.ofString "abcdefghijklmnopqrstuvwxyz").cps.toList ↔ 97 ≤ c ∧ c ≤ 122 := by
  have e : (Str.ofString "abcdefghijklmnopqrstuvwxyz").cps.toList = (List.range 26).map (97 + ·) := by decide +kernel
  rw [e, List.mem_map]
  constructor
  · rintro ⟨i, hi, rfl⟩
    have := List.mem_range.mp hi
    omega
  · rintro ⟨h1, h2⟩
    exact ⟨c - 97, List.mem_range.mpr (by omega), by omega⟩
theorem letters_nil {z : Str} : z.cps.toList.filterMap (fun c => if c ∈ (Str.ofString "abcdefghijklmnopqrstuvwxyz").cps.toList then none else some (⟨#[c]⟩ : Str)) = [] ↔ ∀ c ∈ z.cps.toList, 97 ≤ c ∧ c ≤ 122 := by
  rw [List.filterMap_eq_nil_iff]
  constructor
  · intro h c hc
    by_cases g : c ∈ (Str.ofString "abcdefghijklmnopqrstuvwxyz").cps.toList
    · exact (letters_mem c).mp g
    · have := h c hc
      rw [if_neg g] at this
      cases this
  · intro h c hc
    exact if_pos ((letters_mem c).mpr (h c hc))
theorem one_nil {rs : Rgs} : rs.filterMap (fun r => if r.2 < r.1 then some (1 : Int) else none) = [] ↔ ¬ ∃ r ∈ rs, r.2 < r.1 := by
  rw [List.filterMap_eq_nil_iff]
  constructor
  · rintro h ⟨r, hr, g⟩
    have := h r hr
    rw [if_pos g] at this
    cases this
  · intro h r hr
    exact if_neg fun g => h ⟨r, hr, g⟩
abbrev rLin : Rel (List (Str × Rgs)) := rL (rPair rS (rL rRg))
def spDue (K : PySem.W.Frag) : Sp := fun vs H Q _ => ∃ (I : V) (ins : List (Str × Rgs)), vs = [I] ∧ rLin K H I ins ∧ Inb ins ∧ ∀ H' v, Same H H' → rDue K H' v ins → Q v H'
theorem ok__law_due (T : Txt K mg) : FnOk P w K mg base CX0 1 (He.fAd K ("_law_due", none)) T.d__law_due ["inputs"] (spDue K) := by
  refine FunD.ok T.fn__law_due sc__law_due (fun vs H Q E h => ?_) (fun cdv A outer s H vs Q E hr h => ?_)
  · obtain ⟨I, ins, rfl, _⟩ := h
    rfl
  · obtain ⟨I, ins, rfl, hI, hb, q⟩ := h
    refine ⟨_, PSs.nox (pss_cons (ps_set (i := 1) sc__law_due.nd rfl (Or.inl rfl) (pe_op op_powX (pe_op op_pow pe_int pe_int) pe_int))
  (pss_cons (ps_set (i := 2) sc__law_due.nd rfl (Or.inr rfl) pe_str)
  (pss_cons (ps_if (pt_cmpR op_gt (pe_callB (call_lenK (K := K)) (by rfl) T.z_len PySem.boot_len (pa_cons (pv 0) pa_nil)) pe_int (nomark _))
  (pss_one (ps_ret (pe_tupK (K := K) (pa_cons pe_str (pa_cons pe_bl (pa_cons pe_bl pa_nil))))))
  pss_nil)
  (pss_cons (ps_for PassesOwn.never rfl (pi_range1 rfl T.z_range (pa_cons (pe_callB (call_lenK (K := K)) (by rfl) T.z_len PySem.boot_len (pa_cons (pv 0) pa_nil)) pa_nil)) (pg_name (i := 3) sc__law_due.nd rfl (Or.inl rfl))
  (pss_cons (ps_asg (pe_ix (ix_listK (K := K)) (pv 0) (pv 3) (fun _ _ => rfl)) (pg_pair (K := K) (i := 4) (j := 5) rfl sc__law_due.nd rfl rfl (Or.inl rfl) (Or.inl rfl)))
  (pss_cons (ps_set (i := 6) sc__law_due.nd rfl (Or.inl rfl) (PE.up (pe_and (pe_chain op_le op_le pe_int (pe_callB call_lenS (by rfl) T.z_len PySem.boot_len (pa_cons (pv 4) pa_nil)) pe_int) (pe_one (pe_cmpR (op_eqDK (K := K) hr.units) (pe_lcN (own := [("sign", 7)]) rfl sc__law_due.nd (pi_str (pv 4)) (blkOk_by (own := [("sign", 7)]) (N := ["inputs", "great", "letters", "at", "name", "pairs", "good", "sign", "one", "low", "high", "ends", "pair"]) (sc := defScope s__law_due) (by decide +kernel)) (fun _ _ _ _ _ => (pg_name (i := 7) sc__law_due.nd rfl (Or.inl rfl))) (fun _ _ _ _ _ => (pts_one (pt_cmpR op_notInG (pv 7) (pv 2) (by rfl)))) (fun _ _ _ _ _ => (pv 7))) (pe_lstN pa_nil) (nomark _))))))
  (pss_cons (ps_if (PW.pt (pw_or (pt_not (pt_val (pv 6))) (pw_or1 (pt_cmpR (op_inDK (K := K) (units65 hr)) (pv 4) (pe_lcN (own := [("one", 8)]) rfl sc__law_due.nd (pi_listK (K := K) (pe_slice (sl_listK (K := K)) (pv 0) po_none (po_some (pv 3)))) (blkOk_by (own := [("one", 8)]) (N := ["inputs", "great", "letters", "at", "name", "pairs", "good", "sign", "one", "low", "high", "ends", "pair"]) (sc := defScope s__law_due) (by decide +kernel)) (fun _ _ _ _ _ => (pg_name (i := 8) sc__law_due.nd rfl (Or.inl rfl))) (fun _ _ _ _ _ => pts_nil) (fun _ _ _ _ _ => (pe_ix (ix_tupK (K := K)) (pv 8) pe_int (fun _ _ => rfl)))) (by rfl)))))
  (pss_one (ps_ret (pe_tupK (K := K) (pa_cons pe_str (pa_cons pe_non (pa_cons pe_bl (pa_cons pe_bl pa_nil)))))))
  pss_nil)
  (pss_cons (ps_if (pt_cmpR (op_neDK (K := K) hr.units) (pe_lcN (own := [("low", 9), ("high", 10)]) rfl sc__law_due.nd (pi_listK (K := K) (pv 5)) (blkOk_by (own := [("low", 9), ("high", 10)]) (N := ["inputs", "great", "letters", "at", "name", "pairs", "good", "sign", "one", "low", "high", "ends", "pair"]) (sc := defScope s__law_due) (by decide +kernel)) (fun _ _ _ _ _ => (pg_pair (K := K) (i := 9) (j := 10) rfl sc__law_due.nd rfl rfl (Or.inl rfl) (Or.inl rfl))) (fun _ _ _ _ _ => (pts_one (pt_cmpR op_gt (pv 9) (pv 10) (nomark _)))) (fun _ _ _ _ _ => pe_int)) (pe_lstN pa_nil) (nomark _))
  (pss_one (ps_ret (pe_tupK (K := K) (pa_cons pe_str (pa_cons pe_non (pa_cons pe_bl (pa_cons pe_bl pa_nil)))))))
  pss_nil)
  (pss_cons (ps_set (i := 11) sc__law_due.nd rfl (Or.inl rfl) (pe_op op_catN (pe_op op_catN (pe_lcN (own := [("pair", 12)]) rfl sc__law_due.nd (pi_listK (K := K) (pv 5)) (blkOk_by (own := [("pair", 12)]) (N := ["inputs", "great", "letters", "at", "name", "pairs", "good", "sign", "one", "low", "high", "ends", "pair"]) (sc := defScope s__law_due) (by decide +kernel)) (fun _ _ _ _ _ => (pg_name (i := 12) sc__law_due.nd rfl (Or.inl rfl))) (fun _ _ _ _ _ => pts_nil) (fun _ _ _ _ _ => (pe_callB call_abs (by rfl) T.z_abs (by decide +kernel) (pa_cons (pe_ix (ix_tupK (K := K)) (pv 12) pe_int (fun _ _ => rfl)) pa_nil)))) (pe_lcN (own := [("pair", 12)]) rfl sc__law_due.nd (pi_listK (K := K) (pv 5)) (blkOk_by (own := [("pair", 12)]) (N := ["inputs", "great", "letters", "at", "name", "pairs", "good", "sign", "one", "low", "high", "ends", "pair"]) (sc := defScope s__law_due) (by decide +kernel)) (fun _ _ _ _ _ => (pg_name (i := 12) sc__law_due.nd rfl (Or.inl rfl))) (fun _ _ _ _ _ => pts_nil) (fun _ _ _ _ _ => (pe_callB call_abs (by rfl) T.z_abs (by decide +kernel) (pa_cons (pe_ix (ix_tupK (K := K)) (pv 12) pe_int (fun _ _ => rfl)) pa_nil))))) (pe_lstN (pa_cons pe_int pa_nil))))
  (pss_one (ps_if (PW.pt (pw_or (pt_cmpR op_gt (pe_callB (call_lenK (K := K)) (by rfl) T.z_len PySem.boot_len (pa_cons (pv 5) pa_nil)) pe_int (nomark _)) (pw_or1 (pt_cmpR op_ge (pe_callB (call_maxQ (K := K) rfl) (by rfl) T.z_max (by decide +kernel) (pa_cons (pv 11) pa_nil)) (pv 1) (nomark _)))))
  (pss_one (ps_ret (pe_tupK (K := K) (pa_cons pe_str (pa_cons pe_bl (pa_cons pe_bl pa_nil))))))
  pss_nil))))))))
  (pss_one (ps_ret (pe_tupK (K := K) (pa_cons pe_str (pa_cons (pe_callTy (call_tupleK (K := K)) (by rfl) T.z_tuple (by decide +kernel) (pa_cons (pe_lcN (own := [("name", 4), ("pairs", 5)]) rfl sc__law_due.nd (pi_listK (K := K) (pv 0)) (blkOk_by (own := [("name", 4), ("pairs", 5)]) (N := ["inputs", "great", "letters", "at", "name", "pairs", "good", "sign", "one", "low", "high", "ends", "pair"]) (sc := defScope s__law_due) (by decide +kernel)) (fun _ _ _ _ _ => (pg_pair (K := K) (i := 4) (j := 5) rfl sc__law_due.nd rfl rfl (Or.inl rfl) (Or.inl rfl))) (fun _ _ _ _ _ => pts_nil) (fun _ _ _ _ _ => (pe_tupK (K := K) (pa_cons (pv 4) (pa_cons (pe_callTy (call_tupleK (K := K)) (by rfl) T.z_tuple (by decide +kernel) (pa_cons (pv 5) pa_nil)) pa_nil))))) pa_nil)) pa_nil))))))))), ?_⟩
    exists go
    have eg : ((10 : Int) ^ (60 : Int).toNat) ^ (10 : Int).toNat = great := by decide +kernel
    rw [eg]
    refine k_lenR (K := K) (rL_q hI) ?_
    exists go
    refine iteB (fun g1 => ?_) fun g1 => ?_
    · exists go
      rename_i H1 t1 s1 h1
      exact q H1 _ s1 (rDue_great (if_pos (by omega)) h1)
    have e0 : dueC ins = dueIn ins [] := if_neg (by omega)
    have hb1 := hb.1
    exists go
    refine k_lenR (K := K) (rL_q hI) ?_
    exists go
    refine ⟨_, rfl, by omega, by omega, forR (r := rI) (K := K) walkR_rg (fun i σ H' => ∃ (z3 z4 z5 z6 z7 z8 z9 z10 z11 z12 : Option V), σ = [some I, some (.int great), some (.str (Str.ofString "abcdefghijklmnopqrstuvwxyz")), z3, z4, z5, z6, z7, z8, z9, z10, z11, z12] ∧ Same H H' ∧ dueIn (ins.take i) [] = none)
      ⟨_, _, _, _, _, _, _, _, _, _, rfl, Same.refl _, rfl⟩ (fun _ _ _ _ _ => trivial) (fun i x v σ H2 H3 hx hi hP s3 hr => ?_) fun σ H2 hP => ?_⟩
    · obtain ⟨z3, z4, z5, z6, z7, z8, z9, z10, z11, z12, rfl, s2, u2⟩ := hP
      rw [List.getElem?_map, List.getElem?_range hi] at hx
      have hx : x = (i : Int) := by have : 0 + (i : Int) = x := Option.some.inj hx; omega
      subst hx
      have hr : v = .int (i : Int) := hr
      subst hr
      rw [Int.toNat_natCast] at hi
      have s03 := s2.trans s3
      have I3 : rLin K H3 I ins := carS s03 hI
      exists go
      refine k_ixLR (K := K) I3 (by omega) (by omega) fun w p hp hw => ?_
      rw [Int.toNat_natCast] at hp
      have hbp := hb.2 p (List.mem_of_getElem? hp)
      have da := due_at hp u2
      exists go
      refine g_pairR hw fun a b ha hrs => ?_
      obtain ⟨rfl, hok⟩ := ha
      refine ⟨fun v H' => v = .bl (decide (okName p.1)) ∧ Same H3 H', ?_, ?_⟩
      · exists go
        refine k_lenS (by omega) ?_
        exists go
        refine iteB (fun g2 => ?_) fun g2 => ?_
        · exists go
          by_cases g3 : (p.1.length : Int) ≤ 12
          · rw [decide_eq_true g3]
            exists go
            refine k_lcFS (s := rS) (K := K) (fun c => if c ∈ (Str.ofString "abcdefghijklmnopqrstuvwxyz").cps.toList then none else some ⟨#[c]⟩) (by omega) (fun c w H4 X Z hc hw s4 hX hZ => ?_) fun H4 D4 s4 hD4 hL4 => ?_
            · cases hw
              refine ⟨rfl, ?_⟩
              exists go
              refine k_inG ?_
              rw [if_pos rfl]
              by_cases g : c ∈ (Str.ofString "abcdefghijklmnopqrstuvwxyz").cps.toList
              · rw [decide_eq_true g]
                exists go
                exact hZ H4 (Same.refl _) (if_pos g)
              · rw [decide_eq_false g]
                exists go
                refine hX H4 _ _ (Same.refl _) ⟨rfl, strOk_iff.mpr fun c' hc' => ?_⟩ (if_neg g)
                rw [List.mem_singleton.mp hc']
                exact strOk_iff.mp hok c hc
            · exists go
              rename_i H5 l5 s5 n5 e5
              refine k_eqR (rL rS) (carS s5 hL4) (y := []) (⟨l5, [], rfl, e5, trivial⟩ : rL rS K H5 (.ref l5) []) ?_
              refine ⟨congrArg V.bl (decide_eq_decide.mpr (letters_nil.trans ⟨fun h => ⟨by omega, by omega, h⟩, fun h => h.2.2⟩)), s4.trans s5⟩
          · rw [decide_eq_false g3]
            exists go
            exact ⟨by rw [decide_eq_false fun o : okName p.1 => g3 (by have := o.2.1; omega)], Same.refl _⟩
        · exists go
          exact ⟨by rw [decide_eq_false fun o : okName p.1 => g2 (by have := o.1; omega)], Same.refl _⟩
      rintro v H4 ⟨rfl, s4⟩
      have I4 : rLin K H4 I ins := carS s4 I3
      have R4 : rL rRg K H4 b p.2 := carS s4 hrs
      exists go
      by_cases g4 : okName p.1
      · rw [decide_eq_true g4]
        exists go
        refine k_slLR I4 fun H5 D5 s5 n5 L5 => ?_
        rw [cutA_to] at L5
        exists go
        refine k_lcMLr (r := rPair rS (rL rRg)) (s := rS) (K := K) (fun p => p.1) L5 (by rw [List.length_take]; omega) (fun x w H6 X Z hx hw s6 hX => ?_) fun H6 D6 s6 n6 L6 => ?_
        · refine ⟨rfl, ?_⟩
          exists go
          refine k_ixP0 hw fun w1 h1 => ?_
          exact hX H6 _ (Same.refl _) h1
        have R6 : rL rRg K H6 b p.2 := carS (s5.trans s6) R4
        have s06 := (s03.trans s4).trans (s5.trans s6)
        refine k_inR rS ⟨rfl, hok⟩ L6 ?_
        refine ⟨_, rfl, iteB (fun g5 => ?_) fun g5 => ?_⟩
        · exists go
          rename_i H7 t7 s7 h7
          exact q H7 _ (s06.trans s7) (rDue_bad (e0.trans (da.1 true (if_pos (.inr g5)))) h7)
        have b1 : ¬ (¬ okName p.1 ∨ p.1 ∈ (ins.take i).map (·.1)) := fun z => z.elim (fun z => z g4) g5
        exists go
        refine k_lcFLR (r := rRg) (s := rI) (K := K) (fun r => if r.2 < r.1 then some 1 else none) R6 (by omega) (fun r w H7 X Z hr hw s7 hX hZ => ?_) fun H7 D7 s7 n7 L7 => ?_
        · refine g_pairI hw ⟨rfl, ?_⟩
          exists go
          refine iteB (fun g => ?_) fun g => ?_
          · exists go
            exact hX H7 _ 1 (Same.refl _) rfl (if_pos g)
          · exact hZ H7 (Same.refl _) (if_neg g)
        exists go
        rename_i H8 l8 s8 n8 e8
        have R8 : rL rRg K H8 b p.2 := carS (s7.trans s8) R6
        have s08 := s06.trans (s7.trans s8)
        refine k_neR (rL rI) (carS s8 L7) (y := []) (⟨l8, [], rfl, e8, trivial⟩ : rL rI K H8 (.ref l8) []) ?_
        by_cases g6 : ∃ r ∈ p.2, r.2 < r.1
        · rw [decide_eq_false fun z => one_nil.mp z g6]
          exists go
          rename_i H9 t9 s9 h9
          exact q H9 _ (s08.trans s9) (rDue_bad (e0.trans (da.1 true ((if_neg b1).trans (if_pos g6)))) h9)
        rw [decide_eq_true (one_nil.mpr g6)]
        exists go
        refine k_lcML (r := rRg) (s := rI) (K := K) (fun r => if r.1 < 0 then -r.1 else r.1) R8 (by omega) (fun r w H9 X Z hr hw s9 hX => ?_) fun H9 D9 s9 n9 L9 => ?_
        · refine ⟨rfl, ?_⟩
          exists go
          refine k_ixP0 hw fun w1 h1 => ?_
          cases h1
          exists go
          exact ⟨_, rfl, hX H9 _ (Same.refl _) rfl⟩
        have R9 : rL rRg K H9 b p.2 := carS s9 R8
        exists go
        refine k_lcML (r := rRg) (s := rI) (K := K) (fun r => if r.2 < 0 then -r.2 else r.2) R9 (by omega) (fun r w Ha X Z hr hw sa hX => ?_) fun Ha Da sa na La => ?_
        · refine ⟨rfl, ?_⟩
          exists go
          refine k_ixP1 hw fun w1 h1 => ?_
          cases h1
          exists go
          exact ⟨_, rfl, hX Ha _ (Same.refl _) rfl⟩
        have Ra : rL rRg K Ha b p.2 := carS sa R9
        exists go
        refine k_catLR (r := rI) (K := K) (carS sa L9) La (by rw [List.length_map, List.length_map]; omega) fun Hb Db sb nb Lb => ?_
        exists go
        rename_i Hc lc sc nc ec
        refine k_catLR (r := rI) (K := K) (ys := [0]) (carS sc Lb) (⟨lc, _, rfl, ec, rfl, trivial⟩ : rL rI K Hc (.ref lc) [0]) (by rw [List.length_append, List.length_map, List.length_map]; show _ + 1 ≤ _; omega) fun Hd Dd sd nd Ld => ?_
        have Rd : rL rRg K Hd b p.2 := carS ((sb.trans sc).trans sd) Ra
        have s0d := (s08.trans (s9.trans sa)).trans ((sb.trans sc).trans sd)
        exists go
        refine k_lenR (K := K) (rL_q Rd) ?_
        exists go
        refine iteB (fun g7 => ?_) fun g7 => ?_
        · exists go
          rename_i He te se he
          exact q He _ (s0d.trans se) (rDue_great (e0.trans (da.1 false ((if_neg b1).trans ((if_neg g6).trans (if_pos (.inl (by show 8 < p.2.length; omega))))))) he)
        exists go
        refine k_maxQ (.inl (SqL.of Ld.ints)) (by rw [List.length_append]; show 0 < _ + 1; omega) fun m hm hall => ?_
        exists go
        have big : great ≤ m ↔ ∃ r ∈ p.2, great ≤ (r.1.natAbs : Int) ∨ great ≤ (r.2.natAbs : Int) := by
          constructor
          · intro hg
            rcases List.mem_append.mp hm with hm | hm
            · rcases List.mem_append.mp hm with hm | hm
              · obtain ⟨r, hr, rfl⟩ := List.mem_map.mp hm
                exact ⟨r, hr, .inl (by rw [natAbs_if]; exact hg)⟩
              · obtain ⟨r, hr, rfl⟩ := List.mem_map.mp hm
                exact ⟨r, hr, .inr (by rw [natAbs_if]; exact hg)⟩
            · rw [List.mem_singleton.mp hm] at hg
              exact absurd hg (by decide +kernel)
          · rintro ⟨r, hr, hg | hg⟩
            · rw [natAbs_if] at hg
              exact Int.le_trans hg (hall _ (List.mem_append.mpr (.inl (List.mem_append.mpr (.inl (List.mem_map.mpr ⟨r, hr, rfl⟩))))))
            · rw [natAbs_if] at hg
              exact Int.le_trans hg (hall _ (List.mem_append.mpr (.inl (List.mem_append.mpr (.inr (List.mem_map.mpr ⟨r, hr, rfl⟩))))))
        refine iteB (fun g8 => ?_) fun g8 => ?_
        · exists go
          rename_i He te se he
          exact q He _ (s0d.trans se) (rDue_great (e0.trans (da.1 false ((if_neg b1).trans ((if_neg g6).trans (if_pos (.inr (big.mp g8))))))) he)
        · have e : inWay p ((ins.take i).map (·.1)) = none := (if_neg b1).trans ((if_neg g6).trans (if_neg fun z => z.elim (fun z => g7 (by have z : 8 < p.2.length := z; omega)) fun z => g8 (big.mpr z)))
          exists go
          exact ⟨_, _, _, _, _, _, _, _, _, _, rfl, s0d, da.2 e⟩
      · rw [decide_eq_false g4]
        exists go
        rename_i H5 t5 s5 h5
        exact q H5 _ ((s03.trans s4).trans s5) (rDue_bad (e0.trans (da.1 true (if_pos (.inl g4)))) h5)
    · obtain ⟨z3, z4, z5, z6, z7, z8, z9, z10, z11, z12, rfl, s2, u2⟩ := hP
      rw [Int.toNat_natCast, List.take_length] at u2
      have I2 : rLin K H2 I ins := carS s2 hI
      exists go
      refine k_lcML (r := rPair rS (rL rRg)) (s := rPair rS (rT rRg)) (K := K) (fun p => p) I2 (by omega) (fun p w H3 X Z hp hw s3 hX => ?_) fun H3 D3 s3 n3 L3 => ?_
      · refine g_pairR hw fun a b ha hrs => ⟨rfl, ?_⟩
        exists go
        refine k_tupleR (K := K) (rL_q hrs) fun H4 t4 s4 h4 => ?_
        exists go
        rename_i H5 t5 s5 h5
        refine hX H5 _ (s4.trans s5) (rPair_of h5 ha (carS s5 h4))
      exists go
      rw [List.map_id'] at L3
      refine k_tupleR (K := K) (rL_q L3) fun H4 t4 s4 h4 => ?_
      exists go
      rename_i H5 t5 s5 h5
      exact q H5 _ ((s2.trans s3).trans (s4.trans s5)) (rDue_made (e0.trans u2) h5 (carS s5 h4))
end
end Pl

set_option Elab.async false
set_option linter.all false
set_option maxRecDepth 100000
set_option maxHeartbeats 4000000
namespace Pl
open PySem PySem.Spec PyProof.Rows L2 RZ
section
variable {P : Program} {w : World} {K : PySem.W.Frag} {mg : Str → Option Value} {base : Heap} [SupP P]
local macro_rules | `(tactic| exists cgs) => `(tactic| repeat (first | with_reducible apply cg.md | with_reducible apply cg.add | with_reducible apply cg.sub | with_reducible apply cg.mul | with_reducible apply cg.neg | with_reducible exact cg.rf))
local macro_rules | `(tactic| exists cgm) => `(tactic| (apply cg.em; (focus exists cgs); (focus exists cgs); (focus grind)))
local macro_rules | `(tactic| exists hp) => `(tactic| first | assumption | (apply WrapAt.same; (focus assumption); exists hp) | (apply Same.seqT; (focus assumption); exists hp) | (apply Same.seq; (focus assumption); exists hp) | (apply Same.sq; (focus assumption); exists hp) | ((with_reducible apply same_at); (focus assumption); exists hp) | ((with_reducible apply same_trans); (focus assumption); exists hp) | (with_reducible exact Same.refl _))
local macro_rules | `(tactic| exists st) => `(tactic| first | ((with_reducible apply k_var); (focus exact rfl)) | (with_reducible refine k_c ?_) | (with_reducible refine k_op ?_) | (with_reducible refine k_un ?_) | (with_reducible refine k_test ?_) | (with_reducible refine k_tB ?_) | (with_reducible refine k_not ?_) | (with_reducible refine k_or ?_) | (with_reducible refine k_and ?_) | (with_reducible refine k_yes ?_) | (with_reducible refine k_andV ?_) | (with_reducible refine k_orV ?_) | (with_reducible refine k_notV ?_) | (with_reducible refine k_if ?_) | (with_reducible refine k_seq ?_) | (with_reducible refine k_next ?_) | (with_reducible refine k_drop ?_) | (with_reducible refine k_ret ?_) | (with_reducible refine k_retN ?_) | (with_reducible refine k_ifS ?_) | (with_reducible refine k_asg ?_) | (with_reducible refine k_name ?_) | (with_reducible refine k_nil ?_) | (with_reducible refine k_cons ?_) | (with_reducible refine k_call ?_) | (with_reducible refine k_cb ?_) | (with_reducible refine k_lst ?_) | (with_reducible refine k_tup ?_) | (with_reducible refine k_bl ?_) | (with_reducible refine k_i0 ?_) | (with_reducible refine k_u ?_) | (with_reducible refine k_eqI ?_) | (with_reducible refine k_eqB ?_) | (with_reducible refine k_neI ?_) | (with_reducible refine k_ifT ?_) | (with_reducible refine k_ifF ?_) | (with_reducible refine k_ifnT ?_) | (with_reducible refine k_ifnF ?_) | (with_reducible refine k_bl2 ?_) | (with_reducible refine k_ifdR ?_) | (with_reducible refine k_ifndR ?_) | (with_reducible refine k_int ?_) | (with_reducible refine k_ref ?_) | (with_reducible refine k_isB ?_) | (with_reducible refine k_meth ?_) | (with_reducible refine k_fld ?_))
local macro_rules | `(tactic| exists go) => `(tactic| repeat (exists st))
local macro_rules | `(tactic| exists yes) => `(tactic| first | (with_reducible refine k_ifdT (by first | rfl | omega) ?_) | (with_reducible refine k_ifndF (by first | rfl | omega) ?_))
local macro_rules | `(tactic| exists no) => `(tactic| first | (with_reducible refine k_ifdF (by omega) ?_) | (with_reducible refine k_ifndT (by omega) ?_))
local macro_rules | `(tactic| exists st) => `(tactic| first | ((with_reducible apply k_var); (focus exact rfl)) | (with_reducible refine k_c ?_) | (with_reducible refine k_op ?_) | (with_reducible refine k_un ?_) | (with_reducible refine k_test ?_) | (with_reducible refine k_tB ?_) | (with_reducible refine k_not ?_) | (with_reducible refine k_or ?_) | (with_reducible refine k_and ?_) | (with_reducible refine k_yes ?_) | (with_reducible refine k_andV ?_) | (with_reducible refine k_orV ?_) | (with_reducible refine k_notV ?_) | (with_reducible refine k_if ?_) | (with_reducible refine k_seq ?_) | (with_reducible refine k_next ?_) | (with_reducible refine k_drop ?_) | (with_reducible refine k_ret ?_) | (with_reducible refine k_retN ?_) | (with_reducible refine k_ifS ?_) | (with_reducible refine k_asg ?_) | (with_reducible refine k_name ?_) | (with_reducible refine k_nil ?_) | (with_reducible refine k_cons ?_) | (with_reducible refine k_call ?_) | (with_reducible refine k_cb ?_) | (with_reducible refine k_lst ?_) | (with_reducible refine k_tup ?_) | (with_reducible refine k_bl ?_) | (with_reducible refine k_i0 ?_) | (with_reducible refine k_u ?_) | (with_reducible refine k_eqI ?_) | (with_reducible refine k_eqB ?_) | (with_reducible refine k_neI ?_) | (with_reducible refine k_ifT ?_) | (with_reducible refine k_ifF ?_) | (with_reducible refine k_ifnT ?_) | (with_reducible refine k_ifnF ?_) | (with_reducible refine k_bl2 ?_) | (with_reducible refine k_ifdR ?_) | (with_reducible refine k_ifndR ?_) | (with_reducible refine k_int ?_) | (with_reducible refine k_ref ?_) | (with_reducible refine k_isB ?_) | (with_reducible refine k_meth ?_) | (with_reducible refine k_fld ?_) | (with_reducible refine k_callS ?_) | (with_reducible refine k_methS ?_) | (with_reducible refine k_opS ?_) | (with_reducible refine k_smethS ?_) | (with_reducible refine k_atEnd ?_) | (with_reducible refine k_atRt ?_) | (with_reducible refine k_nonR ?_) | (with_reducible refine k_makeS ?_) | (with_reducible refine k_make ?_) | (with_reducible refine k_refnon ?_) | (with_reducible refine k_par ?_) | (with_reducible refine k_par3 ?_) | (with_reducible refine k_two ?_) | (with_reducible refine k_three ?_) | (with_reducible refine k_smeth ?_) | (with_reducible refine k_self ?_) | (with_reducible refine k_neS ?_) | (with_reducible refine k_eqS ?_) | (with_reducible refine k_chain ?_) | ((with_reducible apply k_newT); (focus exact Nat.le_of_ble_eq_true rfl); intro _ _ _ _) | ((with_reducible apply k_newL); (focus exact Nat.le_of_ble_eq_true rfl); intro _ _ _ _ _))
local macro_rules | `(tactic| exists st) => `(tactic| first | (with_reducible refine k_ex1 ?_) | (with_reducible refine k_ex0 ?_) | (with_reducible refine k_lcR1 ?_) | (with_reducible refine k_lcR2 ?_) | (with_reducible refine k_lcL ?_) | (with_reducible refine k_lcT ?_) | (with_reducible refine k_lcQ ?_) | (with_reducible refine k_neB ?_) | (with_reducible refine k_bits ?_) | (with_reducible refine k_prop ?_) | (with_reducible refine k_sl ?_) | (with_reducible refine k_noPart ?_) | (with_reducible refine k_part ?_))
local macro_rules | `(tactic| exists sd) => `(tactic| first | exact ⟨by decide, by decide⟩ | exact Or.inr ⟨by decide, by decide⟩ | exact Or.inl ⟨by decide, by decide⟩ | exact ⟨by decide, by decide, by decide⟩ | exact Or.inl ⟨by omega, by omega⟩ | exact Or.inr ⟨by omega, by omega⟩ | exact ⟨by omega, by omega⟩ | decide | omega)
local macro_rules | `(tactic| exists st) => `(tactic| ((with_reducible apply k_iC); (focus exists sd)))
local macro_rules | `(tactic| exists st) => `(tactic| first | (with_reducible refine k_lrg ?_) | (with_reducible refine k_rg1 ?_) | (with_reducible refine k_append ?_) | (with_reducible refine k_forL ?_) | (with_reducible refine k_forT ?_) | (with_reducible refine k_setOwn ?_) | (with_reducible refine k_gsub ?_) | (with_reducible refine k_forR1 ?_) | (with_reducible refine k_forR2 ?_))
local macro_rules | `(tactic| exists hp) => `(tactic| first | assumption | ((with_reducible apply carS); (focus assumption); exists hp) | ((with_reducible apply carK); (focus assumption); exists hp) | ((with_reducible apply rL_q); exists hp) | ((with_reducible apply rT_q); exists hp))
local macro_rules | `(tactic| exists st) => `(tactic| first | (with_reducible refine k_forEn ?_) | (with_reducible refine k_forEnK ?_) | (with_reducible refine k_forZipQ ?_) | (with_reducible refine k_lcEn ?_) | (with_reducible refine k_lcZipQ ?_))
local macro_rules | `(tactic| exists st) => `(tactic| first | (with_reducible refine k_tupZip ?_))
local macro_rules | `(tactic| exists st) => `(tactic| first | (with_reducible refine k_rawT ?_) | (with_reducible refine k_tJoin ?_) | (with_reducible refine k_lcStr ?_) | (with_reducible refine k_dIn ?_) | (with_reducible refine k_dPut ?_) | (with_reducible refine k_dNew ?_))
local macro_rules | `(tactic| exists hp) => `(tactic| first | assumption | ((with_reducible apply carS); (focus assumption); exists hp) | ((with_reducible apply carM); (focus assumption); exists hp) | ((with_reducible apply rL_q); exists hp) | ((with_reducible apply rT_q); exists hp))
def spTold57 (K : PySem.W.Frag) : Sp := fun vs H Q _ => ∃ (I : V) (ins : List (Str × Rgs)), vs = [I] ∧ rLin K H I ins ∧ Inb ins ∧ ∀ H' v, Same H H' → rDue K H' v ins → Q v H'
theorem ok__law_told (T : Txt K mg) : FnOk P w K mg base CX0 10 (He.fAd K ("_law_told", none)) T.d__law_told ["inputs"] (spTold57 K) := by
  refine FunD.ok T.fn__law_told sc__law_told (fun vs H Q E h => ?_) (fun cdv A outer s H vs Q E hr h => ?_)
  · obtain ⟨I, ins, rfl, _⟩ := h
    rfl
  · obtain ⟨I, ins, rfl, hI, hb, q⟩ := h
    refine ⟨_, PSs.nox (pss_cons (ps_try_all sc__law_told.nd rfl rfl takes0 (fun W pn xe tk po => (pss_cons (ps_set (i := 1) sc__law_told.nd rfl (Or.inl rfl) (pe_makeS T.M_Code (ok_Code___init__ T) (hr.mono (by decide)) (by rfl) T.m_Code T.b_Code___init__ .nil (fun σ => passAt tk σ) (pa_cons (pv 0) (pa_cons (pe_lstN pa_nil) pa_nil))))
  (pss_one (ps_set (i := 2) sc__law_told.nd rfl (Or.inl rfl) (pe_tupK (K := K) (pa_cons pe_str (pa_cons (pe_fldK (K := K) (pv 1) rfl) pa_nil))))))) (HdsN.cons (i := 3) rfl rfl ⟨rfl, by decide, .inl T.m_BadCode⟩ (fun a oe cls d pn hz hf => (pss_one (ps_set (i := 2) sc__law_told.nd rfl (Or.inl rfl) (pe_tupK (K := K) (pa_cons pe_str (pa_cons (pe_xf T.x_BadCode.xf (T.x_BadCode.no _ (by decide)) hz hf (pv 3)) (pa_cons (pe_callB (call_isX (K := K) hz hf) (by rfl) T.z_isinstance (by decide +kernel) (pa_cons (pv 3) (pa_cons (pe_glob (v := .ref (He.ga K "LanesError")) rfl T.m_LanesError rfl) pa_nil))) (pa_cons (pe_callB (call_isX (K := K) hz hf) (by rfl) T.z_isinstance (by decide +kernel) (pa_cons (pv 3) (pa_cons (pe_glob (v := .ref (He.ga K "TooGreat")) rfl T.m_TooGreat rfl) pa_nil))) pa_nil)))))))) (HdsN.cons (i := 3) rfl rfl ⟨rfl, by decide, .inl T.m_TooGreat⟩ (fun a oe cls d pn hz hf => (pss_one (ps_set (i := 2) sc__law_told.nd rfl (Or.inl rfl) (pe_tupK (K := K) (pa_cons pe_str (pa_cons (pe_callB (call_isX (K := K) hz hf) (by rfl) T.z_isinstance (by decide +kernel) (pa_cons (pv 3) (pa_cons (pe_glob (v := .ref (He.ga K "LanesError")) rfl T.m_LanesError rfl) pa_nil))) (pa_cons (pe_callB (call_isX (K := K) hz hf) (by rfl) T.z_isinstance (by decide +kernel) (pa_cons (pv 3) (pa_cons (pe_glob (v := .ref (He.ga K "BadCode")) rfl T.m_BadCode rfl) pa_nil))) pa_nil))))))) HdsN.nil)))
  (pss_one (ps_ret (pv 2)))), ?_⟩
    exists go
    rename_i H1 l1 s1 n1 e1
    intro x dx nx ndx ne
    have s0 : Same H1 (upd (upd H1 dx (.own x)) x (.ins (He.ga K "Code") dx [])) := (same_upd ndx).upd (by rw [upd_ne ne.symm]; exact nx)
    refine ⟨x, dx, I, l1, ins, rfl, upd_same, carS (s1.trans s0) hI, s0 _ _ e1, hb, fun eb d H2 b e => ?_, fun eb H2 b => ?_, fun eb H2 b hc => ⟨rfl, ?_⟩⟩
    · have s2 : Same H H2 := s1.trans (s0.but nx b)
      refine k_hit T.xm_BadCode_BadCode fun a ha => ?_
      exists go
      refine k_xfv e look_one rfl ?_
      exists go
      refine k_isX T.x_BadCode.ec (.inr ⟨_, _, rfl, e⟩) T.kt_BadCode_LanesError ?_
      exists go
      refine k_isX T.x_BadCode.ec (.inr ⟨_, _, rfl, e⟩) T.kt_BadCode_TooGreat ?_
      exists go
      rename_i H3 t3 s3 h3
      exact q H3 _ (s2.trans s3) (rDue_bad eb h3)
    · have s2 : Same H H2 := s1.trans (s0.but nx b)
      refine k_miss T.xm_TooGreat_BadCode ?_
      refine k_hit T.xm_TooGreat_TooGreat fun a ha => ?_
      exists go
      refine k_isX T.x_TooGreat.ec (.inl rfl) T.kt_TooGreat_LanesError ?_
      exists go
      refine k_isX T.x_TooGreat.ec (.inl rfl) T.kt_TooGreat_BadCode ?_
      exists go
      rename_i H3 t3 s3 h3
      exact q H3 _ (s2.trans s3) (rDue_great eb h3)
    · have s2 : Same H H2 := s1.trans (s0.but nx b)
      obtain ⟨dx2, I2, S2, d2, g1, g2, g3⟩ := hc
      exists go
      refine ⟨x, _, _, _, _, rfl, g1, T.cl_Code, T.n_Code_inputs, rfl, ?_⟩
      exists go
      rename_i H3 t3 s3 h3
      exact q H3 _ (s2.trans s3) (rDue_made eb h3 (carS s3 g2))
end
end Pl

set_option Elab.async false
set_option linter.all false
set_option maxRecDepth 100000
set_option maxHeartbeats 4000000
namespace Pl
open PySem PySem.Spec PyProof.Rows L2 RZ
section
variable {P : Program} {w : World} {K : PySem.W.Frag} {mg : Str → Option Value} {base : Heap} [SupP P]
local macro_rules | `(tactic| exists cgs) => `(tactic| repeat (first | with_reducible apply cg.md | with_reducible apply cg.add | with_reducible apply cg.sub | with_reducible apply cg.mul | with_reducible apply cg.neg | with_reducible exact cg.rf))
local macro_rules | `(tactic| exists cgm) => `(tactic| (apply cg.em; (focus exists cgs); (focus exists cgs); (focus grind)))
local macro_rules | `(tactic| exists hp) => `(tactic| first | assumption | (apply WrapAt.same; (focus assumption); exists hp) | (apply Same.seqT; (focus assumption); exists hp) | (apply Same.seq; (focus assumption); exists hp) | (apply Same.sq; (focus assumption); exists hp) | ((with_reducible apply same_at); (focus assumption); exists hp) | ((with_reducible apply same_trans); (focus assumption); exists hp) | (with_reducible exact Same.refl _))
local macro_rules | `(tactic| exists st) => `(tactic| first | ((with_reducible apply k_var); (focus exact rfl)) | (with_reducible refine k_c ?_) | (with_reducible refine k_op ?_) | (with_reducible refine k_un ?_) | (with_reducible refine k_test ?_) | (with_reducible refine k_tB ?_) | (with_reducible refine k_not ?_) | (with_reducible refine k_or ?_) | (with_reducible refine k_and ?_) | (with_reducible refine k_yes ?_) | (with_reducible refine k_andV ?_) | (with_reducible refine k_orV ?_) | (with_reducible refine k_notV ?_) | (with_reducible refine k_if ?_) | (with_reducible refine k_seq ?_) | (with_reducible refine k_next ?_) | (with_reducible refine k_drop ?_) | (with_reducible refine k_ret ?_) | (with_reducible refine k_retN ?_) | (with_reducible refine k_ifS ?_) | (with_reducible refine k_asg ?_) | (with_reducible refine k_name ?_) | (with_reducible refine k_nil ?_) | (with_reducible refine k_cons ?_) | (with_reducible refine k_call ?_) | (with_reducible refine k_cb ?_) | (with_reducible refine k_lst ?_) | (with_reducible refine k_tup ?_) | (with_reducible refine k_bl ?_) | (with_reducible refine k_i0 ?_) | (with_reducible refine k_u ?_) | (with_reducible refine k_eqI ?_) | (with_reducible refine k_eqB ?_) | (with_reducible refine k_neI ?_) | (with_reducible refine k_ifT ?_) | (with_reducible refine k_ifF ?_) | (with_reducible refine k_ifnT ?_) | (with_reducible refine k_ifnF ?_) | (with_reducible refine k_bl2 ?_) | (with_reducible refine k_ifdR ?_) | (with_reducible refine k_ifndR ?_) | (with_reducible refine k_int ?_) | (with_reducible refine k_ref ?_) | (with_reducible refine k_isB ?_) | (with_reducible refine k_meth ?_) | (with_reducible refine k_fld ?_))
local macro_rules | `(tactic| exists go) => `(tactic| repeat (exists st))
local macro_rules | `(tactic| exists yes) => `(tactic| first | (with_reducible refine k_ifdT (by first | rfl | omega) ?_) | (with_reducible refine k_ifndF (by first | rfl | omega) ?_))
local macro_rules | `(tactic| exists no) => `(tactic| first | (with_reducible refine k_ifdF (by omega) ?_) | (with_reducible refine k_ifndT (by omega) ?_))
local macro_rules | `(tactic| exists st) => `(tactic| first | ((with_reducible apply k_var); (focus exact rfl)) | (with_reducible refine k_c ?_) | (with_reducible refine k_op ?_) | (with_reducible refine k_un ?_) | (with_reducible refine k_test ?_) | (with_reducible refine k_tB ?_) | (with_reducible refine k_not ?_) | (with_reducible refine k_or ?_) | (with_reducible refine k_and ?_) | (with_reducible refine k_yes ?_) | (with_reducible refine k_andV ?_) | (with_reducible refine k_orV ?_) | (with_reducible refine k_notV ?_) | (with_reducible refine k_if ?_) | (with_reducible refine k_seq ?_) | (with_reducible refine k_next ?_) | (with_reducible refine k_drop ?_) | (with_reducible refine k_ret ?_) | (with_reducible refine k_retN ?_) | (with_reducible refine k_ifS ?_) | (with_reducible refine k_asg ?_) | (with_reducible refine k_name ?_) | (with_reducible refine k_nil ?_) | (with_reducible refine k_cons ?_) | (with_reducible refine k_call ?_) | (with_reducible refine k_cb ?_) | (with_reducible refine k_lst ?_) | (with_reducible refine k_tup ?_) | (with_reducible refine k_bl ?_) | (with_reducible refine k_i0 ?_) | (with_reducible refine k_u ?_) | (with_reducible refine k_eqI ?_) | (with_reducible refine k_eqB ?_) | (with_reducible refine k_neI ?_) | (with_reducible refine k_ifT ?_) | (with_reducible refine k_ifF ?_) | (with_reducible refine k_ifnT ?_) | (with_reducible refine k_ifnF ?_) | (with_reducible refine k_bl2 ?_) | (with_reducible refine k_ifdR ?_) | (with_reducible refine k_ifndR ?_) | (with_reducible refine k_int ?_) | (with_reducible refine k_ref ?_) | (with_reducible refine k_isB ?_) | (with_reducible refine k_meth ?_) | (with_reducible refine k_fld ?_) | (with_reducible refine k_callS ?_) | (with_reducible refine k_methS ?_) | (with_reducible refine k_opS ?_) | (with_reducible refine k_smethS ?_) | (with_reducible refine k_atEnd ?_) | (with_reducible refine k_atRt ?_) | (with_reducible refine k_nonR ?_) | (with_reducible refine k_makeS ?_) | (with_reducible refine k_make ?_) | (with_reducible refine k_refnon ?_) | (with_reducible refine k_par ?_) | (with_reducible refine k_par3 ?_) | (with_reducible refine k_two ?_) | (with_reducible refine k_three ?_) | (with_reducible refine k_smeth ?_) | (with_reducible refine k_self ?_) | (with_reducible refine k_neS ?_) | (with_reducible refine k_eqS ?_) | (with_reducible refine k_chain ?_) | ((with_reducible apply k_newT); (focus exact Nat.le_of_ble_eq_true rfl); intro _ _ _ _) | ((with_reducible apply k_newL); (focus exact Nat.le_of_ble_eq_true rfl); intro _ _ _ _ _))
local macro_rules | `(tactic| exists st) => `(tactic| first | (with_reducible refine k_ex1 ?_) | (with_reducible refine k_ex0 ?_) | (with_reducible refine k_lcR1 ?_) | (with_reducible refine k_lcR2 ?_) | (with_reducible refine k_lcL ?_) | (with_reducible refine k_lcT ?_) | (with_reducible refine k_lcQ ?_) | (with_reducible refine k_neB ?_) | (with_reducible refine k_bits ?_) | (with_reducible refine k_prop ?_) | (with_reducible refine k_sl ?_) | (with_reducible refine k_noPart ?_) | (with_reducible refine k_part ?_))
local macro_rules | `(tactic| exists sd) => `(tactic| first | exact ⟨by decide, by decide⟩ | exact Or.inr ⟨by decide, by decide⟩ | exact Or.inl ⟨by decide, by decide⟩ | exact ⟨by decide, by decide, by decide⟩ | exact Or.inl ⟨by omega, by omega⟩ | exact Or.inr ⟨by omega, by omega⟩ | exact ⟨by omega, by omega⟩ | decide | omega)
local macro_rules | `(tactic| exists st) => `(tactic| ((with_reducible apply k_iC); (focus exists sd)))
local macro_rules | `(tactic| exists st) => `(tactic| first | (with_reducible refine k_lrg ?_) | (with_reducible refine k_rg1 ?_) | (with_reducible refine k_append ?_) | (with_reducible refine k_forL ?_) | (with_reducible refine k_forT ?_) | (with_reducible refine k_setOwn ?_) | (with_reducible refine k_gsub ?_) | (with_reducible refine k_forR1 ?_) | (with_reducible refine k_forR2 ?_))
local macro_rules | `(tactic| exists hp) => `(tactic| first | assumption | ((with_reducible apply carS); (focus assumption); exists hp) | ((with_reducible apply carK); (focus assumption); exists hp) | ((with_reducible apply rL_q); exists hp) | ((with_reducible apply rT_q); exists hp))
local macro_rules | `(tactic| exists st) => `(tactic| first | (with_reducible refine k_forEn ?_) | (with_reducible refine k_forEnK ?_) | (with_reducible refine k_forZipQ ?_) | (with_reducible refine k_lcEn ?_) | (with_reducible refine k_lcZipQ ?_))
local macro_rules | `(tactic| exists st) => `(tactic| first | (with_reducible refine k_tupZip ?_))
local macro_rules | `(tactic| exists st) => `(tactic| first | (with_reducible refine k_rawT ?_) | (with_reducible refine k_tJoin ?_) | (with_reducible refine k_lcStr ?_) | (with_reducible refine k_dIn ?_) | (with_reducible refine k_dPut ?_) | (with_reducible refine k_dNew ?_))
local macro_rules | `(tactic| exists hp) => `(tactic| first | assumption | ((with_reducible apply carS); (focus assumption); exists hp) | ((with_reducible apply carM); (focus assumption); exists hp) | ((with_reducible apply rL_q); exists hp) | ((with_reducible apply rT_q); exists hp))
section
variable {K : PySem.W.Frag}
def sD (M : Addr → Prop) (D : Addr) : Rel (Str × Rgs) := rPair rS (rM (fun x => x = D ∨ M x) rRg)
instance carRD {α : Type} {r : Rel α} {M : Addr → Prop} {D : Addr} [Car (Kx M) r] : Car (Kx M) (rM (fun x => x = D ∨ M x) r) := ⟨fun e ⟨a, vs, h0, n, h1, h2⟩ => ⟨a, vs, h0, n, e _ _ (fun m => absurd (Or.inr m) n) h1, h2.car e⟩⟩
instance {M : Addr → Prop} {D : Addr} : Car (Kx M) (sD M D) := inferInstanceAs (Car (Kx M) (rPair rS (rM (fun x => x = D ∨ M x) rRg)))
instance {M : Addr → Prop} {D : Addr} : Car Same (sD M D) := inferInstanceAs (Car Same (rPair rS (rM (fun x => x = D ∨ M x) rRg)))
theorem sD_cb {M : Addr → Prop} {D : Addr} {H H' : Hp} {ws : List V} {v : V} {x : Str × Rgs} (e : H D = some (.lst ws)) (b : SameBut D H H') (h : sD M D K H v x) : sD M D K H' v x := by
  obtain ⟨T, y, z, h0, h1, h2, a, us, h3, n, h4, h5⟩ := h
  exact ⟨T, y, z, h0, sb_tup b e h1, h2, a, us, h3, n, b _ _ (fun z => n (.inl z)) h4, h5.carB e b⟩
theorem sD_l {M : Addr → Prop} {D : Addr} {H : Hp} {v : V} {x : Str × Rgs} (h : sD M D K H v x) : rPair rS (rL rRg) K H v x := by
  obtain ⟨T, y, z, h0, h1, h2, h3⟩ := h
  exact ⟨T, y, z, h0, h1, h2, rM_l h3⟩
theorem sD_all {M : Addr → Prop} {D : Addr} {H : Hp} {v : V} {xs : List (Str × Rgs)} (h : rL (sD M D) K H v xs) : rLin K H v xs := by
  obtain ⟨a, us, e, h1, h2⟩ := h
  exact ⟨a, us, e, h1, AllR.map (fun _ _ h => sD_l h) h2⟩
theorem rDue_ne {H : Hp} {Q : VK} {v w : V} {ins : List (Str × Rgs)} (h1 : rDue K H v ins) (h2 : rDue K H w ins) (q : Q (.bl false) H) : rNeD K v w H Q := by
  unfold rDue at h1 h2
  cases e : dueC ins with
  | none =>
    rw [e] at h1 h2
    obtain ⟨T, a, rfl, g1, g2⟩ := h1
    obtain ⟨T', a', rfl, g1', g2'⟩ := h2
    exact k_neF' (rPair rS rIns) (x := (Str.ofString "made", ins)) ⟨T, _, _, rfl, g1, ⟨rfl, (by decide +kernel : PyData.strOk (Str.ofString "made") = true)⟩, g2⟩ ⟨T', _, _, rfl, g1', ⟨rfl, (by decide +kernel : PyData.strOk (Str.ofString "made") = true)⟩, g2'⟩ q
  | some b =>
    rw [e] at h1 h2
    cases b with
    | true =>
      obtain ⟨T, rfl, g1⟩ := h1
      obtain ⟨T', rfl, g1'⟩ := h2
      exact k_neT g1 g1' (by decide +kernel) q
    | false =>
      obtain ⟨T, rfl, g1⟩ := h1
      obtain ⟨T', rfl, g1'⟩ := h2
      exact k_neF' (rTri rS rB rB) (x := (Str.ofString "great", true, false)) ⟨T, _, _, _, rfl, g1, ⟨rfl, by decide +kernel⟩, rfl, rfl⟩ ⟨T', _, _, _, rfl, g1', ⟨rfl, by decide +kernel⟩, rfl, rfl⟩ q
theorem rDue.same {H H' : Hp} {v : V} {ins : List (Str × Rgs)} (s : Same H H') (h : rDue K H v ins) : rDue K H' v ins := by
  unfold rDue at h ⊢
  cases e : dueC ins with
  | none =>
    rw [e] at h
    obtain ⟨T, a, g0, g1, g2⟩ := h
    exact ⟨T, a, g0, s.seqT g1, carS s g2⟩
  | some b =>
    rw [e] at h
    cases b with
    | true =>
      obtain ⟨T, g0, g1⟩ := h
      exact ⟨T, g0, s.seqT g1⟩
    | false =>
      obtain ⟨T, g0, g1⟩ := h
      exact ⟨T, g0, s.seqT g1⟩
theorem all_mem {α : Type} {r : Rel α} {H : Hp} {vs : List V} {xs : List α} {v : V} (h : AllR r K H vs xs) (hv : v ∈ vs) : ∃ x ∈ xs, r K H v x := by
  obtain ⟨i, hi⟩ := List.getElem?_of_mem hv
  obtain ⟨x, hx, hr⟩ := h.get hi
  exact ⟨x, List.mem_of_getElem? hx, hr⟩
def fiveW : List Str := [Str.ofString "", Str.ofString "A", Str.ofString "a1", Str.ofString "a b", timesS (Str.ofString "a") 13]
theorem fiveW_ok : ∀ z ∈ fiveW, z.length ≤ 13 ∧ PyData.strOk z = true := by decide +kernel
theorem fiveW_all {H : Hp} : AllR rS K H [.str (Str.ofString ""), .str (Str.ofString "A"), .str (Str.ofString "a1"), .str (Str.ofString "a b"), .str (timesS (Str.ofString "a") 13)] fiveW :=
  ⟨⟨rfl, (fiveW_ok _ (by unfold fiveW; simp)).2⟩, ⟨rfl, (fiveW_ok _ (by unfold fiveW; simp)).2⟩, ⟨rfl, (fiveW_ok _ (by unfold fiveW; simp)).2⟩, ⟨rfl, (fiveW_ok _ (by unfold fiveW; simp)).2⟩, ⟨rfl, (fiveW_ok _ (by unfold fiveW; simp)).2⟩, trivial⟩
end
def spLaw (K : PySem.W.Frag) : Sp := fun vs H Q _ => ∃ (a : Addr) (ns : List Int), vs = [.ref a] ∧ SqL K H a (ns.map V.int) ∧ ns.length ≤ 63 ∧ ∀ H', Q (.bl true) H'
theorem ok_law (T : Txt K mg) : FnOk P w K mg base CX0 11 (He.fAd K ("law", none)) T.d_law ["script"] (spLaw K) := by
  refine FunD.ok T.fn_law sc_law (fun vs H Q E h => ?_) (fun cdv A outer s H vs Q E hr h => ?_)
  · obtain ⟨a, ns, rfl, _⟩ := h
    rfl
  · obtain ⟨a, ns, rfl, hS, hl, q⟩ := h
    refine ⟨_, PSs.nox (pss_cons (ps_set (i := 1) sc_law.nd rfl (Or.inr rfl) (pe_lstN (pa_cons (pe_orTJ (K := K) (pe_callTy (call_listK (K := K)) (by rfl) T.z_list (by decide +kernel) (pa_cons (pv 0) pa_nil)) (pe_one (pe_lstN (pa_cons pe_int pa_nil)))) (pa_cons pe_int pa_nil))))
  (pss_cons (ps_for PassesOwn.never rfl (pi_range1 rfl T.z_range (pa_cons pe_int pa_nil)) (pg_name (i := 2) sc_law.nd rfl (Or.inl rfl))
  (pss_cons (ps_set (i := 3) sc_law.nd rfl (Or.inl rfl) (pe_call (ok__law_names T) (hr.mono (by decide)) (by rfl) T.m__law_names T.fn__law_names.kp T.b__law_names .nil pass0 (pa_cons (pv 1) (pa_cons (pe_ifExpJ (pt_cmpR op_eq (pe_call (ok__law_draw T) (hr.mono (by decide)) (by rfl) T.m__law_draw T.fn__law_draw.kp T.b__law_draw .nil pass0 (pa_cons (pv 1) (pa_cons pe_int pa_nil))) pe_int (nomark _)) (pe_call (ok__law_draw T) (hr.mono (by decide)) (by rfl) T.m__law_draw T.fn__law_draw.kp T.b__law_draw .nil pass0 (pa_cons (pv 1) (pa_cons pe_int pa_nil))) (pe_call (ok__law_draw T) (hr.mono (by decide)) (by rfl) T.m__law_draw T.fn__law_draw.kp T.b__law_draw .nil pass0 (pa_cons (pv 1) (pa_cons pe_int pa_nil)))) pa_nil))))
  (pss_cons (ps_for PassesOwn.never rfl (pi_range1 rfl T.z_range (pa_cons (pe_callB (call_lenK (K := K)) (by rfl) T.z_len PySem.boot_len (pa_cons (pv 3) pa_nil)) pa_nil)) (pg_name (i := 4) sc_law.nd rfl (Or.inl rfl))
  (pss_one (ps_ifJ (pt_cmpR op_eq (pe_call (ok__law_draw T) (hr.mono (by decide)) (by rfl) T.m__law_draw T.fn__law_draw.kp T.b__law_draw .nil pass0 (pa_cons (pv 1) (pa_cons pe_int pa_nil))) pe_int (nomark _))
  (pss_one (ps_asg (pe_call (ok__law_pick T) (hr.mono (by decide)) (by rfl) T.m__law_pick T.fn__law_pick.kp T.b__law_pick .nil pass0 (pa_cons (pv 1) (pa_cons (pe_op op_catN (pe_lstN (pa_cons pe_str (pa_cons pe_str (pa_cons pe_str (pa_cons pe_str (pa_cons (pe_op op_mulS pe_str pe_int) pa_nil)))))) (pv 3)) pa_nil))) (pg_sub (pv 3) (pv 4) set_list)))
  pss_nil)))
  (pss_cons (ps_setLcN (i := 5) (own := [("name", 6)]) rfl sc_law.nd rfl rfl (sw_true rfl rfl rfl (by decide +kernel)) (pi_listK (K := K) (pv 3)) (blkOk_by (own := [("name", 6)]) (N := ["script", "pen", "turn", "names", "at", "inputs", "name", "pairs"]) (sc := defScope s_law) (by decide +kernel)) (fun _ _ _ _ _ => (pg_name (i := 6) sc_law.nd rfl (Or.inl rfl))) (fun _ _ _ _ _ => pts_nil) (fun _ _ _ _ _ => (pe_tupK (K := K) (pa_cons (pv 6) (pa_cons (pe_call (ok__law_pairs T) (hr.mono (by decide)) (by rfl) T.m__law_pairs T.fn__law_pairs.kp T.b__law_pairs .nil pass0 (pa_cons (pv 1) pa_nil)) pa_nil)))))
  (pss_one (ps_if (pt_cmpR (op_neDK (K := K) hr.units) (pe_call (ok__law_told T) (hr.mono (by decide)) (by rfl) T.m__law_told T.fn__law_told.kp T.b__law_told .nil pass0 (pa_cons (pe_lcN (own := [("name", 6), ("pairs", 7)]) rfl sc_law.nd (pi_listK (K := K) (pv 5)) (blkOk_by (own := [("name", 6), ("pairs", 7)]) (N := ["script", "pen", "turn", "names", "at", "inputs", "name", "pairs"]) (sc := defScope s_law) (by decide +kernel)) (fun _ _ _ _ _ => (pg_pair (K := K) (i := 6) (j := 7) rfl sc_law.nd rfl rfl (Or.inl rfl) (Or.inl rfl))) (fun _ _ _ _ _ => pts_nil) (fun _ _ _ _ _ => (pe_tupK (K := K) (pa_cons (pv 6) (pa_cons (pe_callTy (call_listK (K := K)) (by rfl) T.z_list (by decide +kernel) (pa_cons (pv 7) pa_nil)) pa_nil))))) pa_nil)) (pe_call (ok__law_due T) (hr.mono (by decide)) (by rfl) T.m__law_due T.fn__law_due.kp T.b__law_due .nil pass0 (pa_cons (pv 5) pa_nil)) (nomark _))
  (pss_one (ps_ret pe_bl))
  pss_nil))))))
  (pss_one (ps_ret pe_bl)))), ?_⟩
    exists go
    refine ⟨fun v H' => ∃ c zs, v = .ref c ∧ H' c = some (.lst (List.map V.int zs)) ∧ 0 < zs.length ∧ zs.length ≤ 63, ⟨_, rfl, a, _, rfl, .inl hS, fun H1 c s1 n1 e1 => ⟨_, .inl ⟨_, SqL.of e1, rfl⟩, ?_⟩⟩, ?_⟩
    · cases ns with
      | nil => exact iteF ⟨small (by show 1 ≤ _; omega), fun H2 l s2 n2 e2 => ⟨l, [0], rfl, e2, by decide, by decide⟩⟩
      | cons x r => exact iteT ⟨c, _, rfl, e1, by simp, hl⟩
    rintro v H1 ⟨c, zs, rfl, e1, z0, z1⟩
    exists go
    rename_i H2 pen s2 n2 e2
    have p2 : PW H2 pen c 0 := ⟨zs, 0, e2, s2 _ _ e1, z0, z1, by omega, by omega⟩
    refine ⟨_, rfl, by decide, by decide, for_range (lo := 0) (n := (5 : Int).toNat) (fun i σ H' => ∃ z2 z3 z4 z5 z6 z7, σ = [some (.ref a), some (.ref pen), z2, z3, z4, z5, z6, z7] ∧ PW H' pen c (2000 * i)) ⟨none, none, none, none, none, none, rfl, p2⟩ ?_ ?_⟩
    rotate_left
    · rintro σ H3 ⟨z2, z3, z4, z5, z6, z7, rfl, _⟩
      exact q H3
    rintro i σ H3 hi ⟨z2, z3, z4, z5, z6, z7, rfl, p3⟩
    have hi4 : i < 5 := hi
    exists go
    refine k_ifEJ (fun v H' => ∃ m : Nat, v = .int m ∧ m ≤ 7 ∧ PW H' pen c (2000 * i + 2)) ?_ ?_
    · exists go
      refine k_drawX p3 (by omega) (by omega) (by omega) fun H4 d k4 p4 l4 u4 => ?_
      exists go
      refine iteB (fun _ => ?_) fun _ => ?_
      · exists go
        refine k_drawX p4 (by omega) (by omega) (by omega) fun H5 d k5 p5 l5 u5 => ?_
        exact ⟨d.toNat, by rw [Int.toNat_of_nonneg l5], by omega, p5⟩
      · exists go
        refine k_drawX p4 (by omega) (by omega) (by omega) fun H5 d k5 p5 l5 u5 => ?_
        exact ⟨d.toNat, by rw [Int.toNat_of_nonneg l5], by omega, p5⟩
    rintro v H4 ⟨m, rfl, m7, p4⟩
    exists go
    refine ⟨pen, c, _, m, rfl, p4, by omega, by omega, fun H5 l ns k5 p5 nl L5 el hN => ?_⟩
    have p5 := p5.mono (m := 2000 * i + 110) (by omega)
    have hM := notM p4 nl
    exists go
    refine k_lenR (K := K) (rL_q L5) ?_
    exists go
    have L5M : rM (Mp pen c) rS K H5 (.ref l) ns := by
      obtain ⟨a0, us, e, g1, g2⟩ := L5
      cases e
      exact ⟨l, us, rfl, hM, g1, g2⟩
    have h13 : ∀ z ∈ ns, z.length ≤ 13 := fun z hz => by have := (hN.2 z hz).2.1; omega
    refine ⟨_, rfl, by omega, by omega, forR (r := rI) (K := K) walkR_rg (fun j σ H' => ∃ (ns' : List Str) (z4 z5 z6 z7 : Option V) (z2 : Option V), σ = [some (.ref a), some (.ref pen), z2, some (.ref l), z4, z5, z6, z7] ∧ PW H' pen c (2000 * i + 110 + 2 * j) ∧ rM (Mp pen c) rS K H' (.ref l) ns' ∧ ns'.length = ns.length ∧ ∀ z ∈ ns', z.length ≤ 13)
      ⟨ns, _, _, _, _, _, rfl, p5, L5M, rfl, h13⟩ (fun _ _ _ _ _ => trivial) (fun j x v σ H6 H7 hx hj hP s7 hr => ?_) fun σ H6 hP => ?_⟩
    · obtain ⟨ns', z4, z5, z6, z7, z2, rfl, p6, L6, en, h13'⟩ := hP
      rw [List.getElem?_map, List.getElem?_range hj] at hx
      have hx : x = (j : Int) := by have : 0 + (j : Int) = x := Option.some.inj hx; omega
      subst hx
      have hr : v = .int (j : Int) := hr
      subst hr
      rw [Int.toNat_natCast] at hj
      have p7 := p6.same s7
      have L7 : rM (Mp pen c) rS K H7 (.ref l) ns' := carS s7 L6
      have hlen : ns.length ≤ 7 := by omega
      exists go
      refine k_ifJ (fun σ H' => ∃ (ns' : List Str) (z4 z5 z6 z7 : Option V) (z2 : Option V), σ = [some (.ref a), some (.ref pen), z2, some (.ref l), z4, z5, z6, z7] ∧ PW H' pen c (2000 * i + 110 + 2 * (j + 1)) ∧ rM (Mp pen c) rS K H' (.ref l) ns' ∧ ns'.length = ns.length ∧ ∀ z ∈ ns', z.length ≤ 13) ?_ ?_
      · exists go
        refine k_drawX p7 (by omega) (by omega) (by omega) fun H8 d8 k8 p8 l8 u8 => ?_
        have L8 : rM (Mp pen c) rS K H8 (.ref l) ns' := carM k8 L7
        exists go
        refine iteB (fun _ => ?_) fun _ => ?_
        · exists go
          refine k_mulS (by omega) (by omega) (by decide) ?_
          exists go
          rename_i H9 l9 s9 n9 e9
          have L9 : rM (Mp pen c) rS K H9 (.ref l) ns' := carS s9 L8
          have F9 : rL rS K H9 (.ref l9) fiveW := ⟨l9, _, rfl, e9, fiveW_all⟩
          refine k_catLR (r := rS) (K := K) F9 (rM_l L9) (by show 5 + _ ≤ _; omega) fun H10 D10 s10 n10 L10 => ?_
          have p10 := (p8.same s9).same s10
          have nM10 := notM (p8.same s9) n10
          obtain ⟨a0, us, e0, g1, g2⟩ := L10
          cases e0
          have lus := g2.length
          rw [List.length_append] at lus
          have l5 : fiveW.length = 5 := rfl
          exists go
          refine k_pickX p10 (by omega) g1 nM10 (by omega) (by omega) fun H11 v k11 p11 hv => ?_
          obtain ⟨z, hz, hvz⟩ := all_mem g2 hv
          have L11 : rM (Mp pen c) rS K H11 (.ref l) ns' := carM k11 (carS s10 L9)
          exists go
          refine k_setR (r := rS) (K := K) (x := z) (rM_l L11) hvz (by omega) (by omega) fun H12 b12 L12 => ?_
          refine ⟨ns'.set (j : Int).toNat z, _, _, _, _, _, rfl, (PW.butF p4 nl b12 p11).mono (by omega), ?_, by rw [List.length_set]; exact en, fun w hw => ?_⟩
          · obtain ⟨a1, us1, e1, g3, g4⟩ := L12
            cases e1
            exact ⟨l, us1, rfl, hM, g3, g4⟩
          · rcases List.mem_or_eq_of_mem_set hw with h | h
            · exact h13' w h
            · rw [h]
              rcases List.mem_append.mp hz with h | h
              · exact (fiveW_ok z h).1
              · exact h13' z h
        · exists go
          exact ⟨ns', _, _, _, _, _, rfl, p8.mono (by omega), L8, en, h13'⟩
      · rintro σ H8 h
        exact h
    · obtain ⟨ns', z4, z5, z6, z7, z2, rfl, p6, L6, en, h13'⟩ := hP
      rw [Int.toNat_natCast] at p6
      exists go
      have q6 := rM_l L6
      have hlen : ns'.length ≤ 7 := by omega
      have p6' : PW H6 pen c (2000 * i + 200 + 80 * 0) := p6.mono (by omega)
      refine ⟨(let ⟨us, h, _⟩ := q6.sqr; ⟨us, h⟩), lcRD (r := rS) (s := sD (Mp pen c)) (E := Kx (Mp pen c)) (K := K) walkR_L (fun _ x o => ∃ y, o = some y ∧ (y.1 = x ∧ y.2.length ≤ 9)) (fun k H' => PW H' pen c (2000 * i + 200 + 80 * k)) rfl (by omega) sD_cb (fun hD k _ e => kx_lst p6 hD k e) p6' (fun _ _ _ h e => h.same e) (fun D i H1 H2 hD h b => PW.but p6 hD b h) (fun H' e => (rM_l (carM e L6)).sqr) (fun k x v H7 X Z D hx hk hr k7 p7 ⟨ws, eD⟩ hX _ => ?_) fun H7 D ys k7 p7 hD hL hg => ?_⟩
      · obtain ⟨rfl, hok⟩ := hr
        refine ⟨rfl, ?_⟩
        exists go
        refine ⟨pen, c, _, rfl, p7, by omega, fun H8 l8 rs k8 p8 n8 L8 lrs => ?_⟩
        exists go
        rename_i H9 t9 s9 h9
        obtain ⟨a1, us, e1, nM, g1, g2⟩ := L8
        cases e1
        refine hX H9 _ (x, rs) (kx_same k8 s9) ((p8.same s9).mono (by omega)) ⟨t9, _, _, rfl, h9, ⟨rfl, hok⟩, l8, us, rfl, fun z => z.elim (fun z => by rw [z, eD] at n8; cases n8) nM, s9 _ _ g1, g2.car s9⟩ ⟨_, rfl, rfl, lrs⟩
      have hall := hg.all
      have hys : ys.length = ns'.length := hall.1
      have hb : Inb ys := by
        refine ⟨by omega, fun y hy => ?_⟩
        obtain ⟨k, hk⟩ := List.getElem?_of_mem hy
        have lt := (List.getElem?_eq_some_iff.mp hk).1
        have hx : ns'[k]? = some ns'[k] := List.getElem?_eq_getElem (by omega)
        obtain ⟨y', h1, h2, h3⟩ := hall.2 k _ hx
        rw [hk] at h1
        cases h1
        have := h13' _ (List.mem_of_getElem? hx)
        rw [h2]
        omega
      have hI : rLin K H7 (.ref D) ys := sD_all hL
      exists go
      refine ⟨(let ⟨us, h, _⟩ := hI.sqr; ⟨us, h⟩), lcRD (r := rPair rS (rL rRg)) (s := sD fun _ => False) (E := Same) (K := K) walkR_L (fun _ x o => o = some ((fun x => x) x)) (fun _ _ => True) rfl (by omega) sD_cb (fun _ e _ h => e _ _ h) trivial (fun _ _ _ _ _ => trivial) (fun _ _ _ _ _ _ _ => trivial) (fun H' e => (carS e hI).sqr) (fun k x v H8 X Z D2 hx hk hr k8 _ hD hX _ => ?_) fun H8 D2 ys2 k8 _ hD2 hL2 hg2 => ?_⟩
      · obtain ⟨ws, eD⟩ := hD
        refine g_pairR hr fun b1 b2 h1 h2 => ⟨rfl, ?_⟩
        exists go
        refine k_listR (K := K) (rL_q h2) fun H9 l9 s9 n9 L9 => ?_
        exists go
        rename_i H10 t10 s10 h10
        obtain ⟨a1, us, e1, g1, g2⟩ := L9
        cases e1
        refine hX H10 _ x (s9.trans s10) trivial ⟨t10, _, _, rfl, h10, h1, l9, us, rfl, fun z => z.elim (fun z => by rw [z, eD] at n9; cases n9) id, s10 _ _ g1, g2.car s10⟩ rfl
      have e2 := hg2.map
      rw [List.map_id'] at e2
      subst e2
      exists go
      refine ⟨.ref D2, ys2, rfl, sD_all hL2, hb, fun H9 v s9 hv => ?_⟩
      exists go
      refine ⟨.ref D, ys2, rfl, carS (k8.trans s9) hI, hb, fun H10 w s10 hw => ?_⟩
      refine rDue_ne (hv.same s10) hw ?_
      exists go
      exact ⟨_, _, _, _, _, _, rfl, (((p7.same k8).same s9).same s10).mono (by omega)⟩
end
end Pl

set_option Elab.async false
set_option linter.all false
set_option maxRecDepth 100000
set_option maxHeartbeats 0
namespace Pl
open PySem PySem.Spec PyProof.Rows L2 RZ
abbrev R : PySem.W.OpenRow := PySem.W.OpenLaw.row PySem.Challenge.rw_packedlanes_k57_inputs_refused
def loose : List Str := (["_wall", "LanesError", "BadCode", "TooGreat", "_TOO_LONG", "_MOST_LETTERS", "_MOST_INPUTS", "_MOST_RANGES", "_MOST_STEPS", "_MOST_LANES", "_MOST_DIVIDING", "_ENTRIES", "_SETTING", "DIVIDING", "Code", "is_name", "_copied", "_is_too_long", "_counted_lanes", "_check_input", "_check_number", "_count_lets", "_has_form", "_is_let", "_is_right", "_may_be_set", "_is_right_term", "_is_right_inside", "_count_step", "_is_too_great"] : List Str) ++ (["_lanes_set", "_law_draw", "_law_pick", "_law_word", "_law_names", "_law_number", "_law_pairs", "_law_due", "_law_told"] : List Str)
abbrev hk : PySem.W.Hook := hookX 6 fa fnD xsD ex
def ob (s : PySem.W.SharedT) : AlX := obsX 6 fa fnD xsD ex (HandSHeadRun.getT s)
theorem ob_eq (s : PySem.W.SharedT) : ob s = hk.obs s.abs := obsX_eq (HandSHeadRun.getT_eq s)
theorem runF (w : World) : HandSHeadRun.RunEq R (PySem.W.view R.prog [42]) hk ob 40000 loose (w.withFollow "special-get-raises" false) := by
  intro os
  kernel_rfl
theorem runT (w : World) : HandSHeadRun.RunEq R (PySem.W.view R.prog [42]) hk ob 40000 loose (w.withFollow "special-get-raises" true) := by
  intro os
  kernel_rfl
theorem run (w : World) : HandSHeadRun.RunEq R (PySem.W.view R.prog [42]) hk ob 40000 loose w := PySem.W.byRow2 "special-get-raises" (P := fun w => HandSHeadRun.RunEq R (PySem.W.view R.prog [42]) hk ob 40000 loose w) runF runT w
end Pl
open PySem PySem.W PySem.Calls PyProof.Rows
set_option maxHeartbeats 0 in
theorem PySem.Challenge.cw_packedlanes_k57_inputs_refused_holds : PySem.Challenge.rw_packedlanes_k57_inputs_refused.Holds := by
  w_on; o_law
  refine HandSHeadRun.head_any (r := OpenLaw.row PySem.Challenge.rw_packedlanes_k57_inputs_refused) (q := view (OpenLaw.row PySem.Challenge.rw_packedlanes_k57_inputs_refused).prog [42]) (H := Pl.hk) (ob := Pl.ob) (M := 40000) (loose := Pl.loose) (d := HandSHeadRun.topDef (OpenLaw.row PySem.Challenge.rw_packedlanes_k57_inputs_refused).prog 42) (kwd := []) Pl.ob_eq
    (by kernel_rfl) (fun s => by kernel_rfl) Pl.run (by kernel_rfl) (by kernel_rfl) (by kernel_rfl) (by rfl) (by first | assumption | decide +kernel) (by decide +kernel) ⟨rfl, rfl, rfl, rfl, rfl, by decide +kernel⟩ ?hw ?hc
  case hw => w_witness2
  case hc =>
    refine L2.walk_ofEB (l := PySem.Challenge.rw_packedlanes_k57_inputs_refused) (n := 63) (k := 11) (x := "script") (CX := L2.CX0) rfl (by decide) (by kernel_rfl) ⟨rfl, by decide, by decide⟩ ?F (fun _ _ _ _ z => z)
    intro w mg fa h Y G hmg0
    obtain ⟨K, KX, c⟩ := Y
    have hmg : mg ("law" : PySem.Str) = some (.ref fa) := by
      have e : (HandSHeadRun.topDef (OpenLaw.row PySem.Challenge.rw_packedlanes_k57_inputs_refused).prog 42).name = ("law" : PySem.Str) := by kernel_rfl
      rw [← e]
      exact hmg0
    have T := Pl.txt_of KX G c
    have e := hmg.symm.trans T.m_law
    cases e
    haveI : Pl.SupP PySem.Challenge.rw_packedlanes_k57_inputs_refused.prog := ⟨by kernel_rfl, by kernel_rfl⟩
    exact ⟨K, T.d_law, Pl.spLaw K, KX, T.ba_law, fun H a ns hl _ _ hS => ⟨a, ns, rfl, hS, hl, fun _ => rfl⟩, fun base _ _ => Pl.ok_law T⟩
